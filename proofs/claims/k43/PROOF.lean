import PyProof.Rows.All
import Wide.All
import OpenK.AllK
import Wide.FinOn
import Lean
import PyProof.EqAt
import PyProof.EqKinds
import PyProof.TupleCall
import PyProof.EqLayable
import PyProof.P3In
import PyProof.Draws
import PyProof.EnumMake
import PyProof.CompFree
import PyProof.CompUse
import KE.KRevIter
import PyProof.DictIter
import PyProof.ZipIter
import PyProof.ListMulRoad
import PyProof.ConsumeWalk
import PyProof.ListRange
import PyProof.WalkInts
import PyProof.SeqI3
import PyProof.DictItems
import KE.KDictList
import PyProof.DictCalls
import PyProof.DictCopy
import PyProof.DictList
import PyProof.DictUpdate
import PyProof.DictRoads
import PyProof.DictRoadsH
import PyProof.TupleKey
import KE.KSortTup
import KE.KSortAsk
import PyProof.DictKinds
import PyProof.DictRoadsH
import PySem.Challenge.RW_callmatch_k43_whole_inner_costs_are_shut
set_option Elab.async false
set_option linter.all false
set_option maxRecDepth 100000
set_option genSizeOfSpec false
set_option compiler.extract_closed false
set_option maxHeartbeats 4000000
local macro_rules | `(tactic| trivial) => `(tactic| first | exact .inl rfl | exact .inr (.inl rfl) | exact .inr (.inr rfl) | exact .inr rfl | assumption)
noncomputable section
namespace L2
open PySem PySem.Spec PyProof.Rows
abbrev Key:=Sum Int Str
def X0:Key->Value->Bool
 |.inl k,v=>Value.isInt k v
 |.inr x,v=>Value.isStrOf x v
def c1V(w:World):Key->Int
 |.inl k=>hashInt k
 |.inr x=>hashStr w x
theorem u5:∀ {k:Key} {v:Value},X0 k v=true->(∃ i t,k=Sum.inl i/\v=Value.int i t)\/(∃ x t,k=Sum.inr x/\v=Value.str x t)
 |.inl i,v,h=>by
  obtain ⟨t,e⟩:=Value.isInt_shape (k:=i) (v:=v) h;exact .inl ⟨i,t,rfl,e⟩
 |.inr x,v,h=>by
  obtain ⟨t,e⟩:=Value.isStrOf_shape (x:=x) (v:=v) h;exact .inr ⟨x,t,rfl,e⟩
theorem a5N(i:Int)(t:Tok):X0 (.inl i) (.int i t)=true:=by simp [X0,Value.isInt]
theorem a6h(x:Str)(t:Tok):X0 (.inr x) (.str x t)=true:=by simp [X0,Value.isStrOf]
theorem b8E(a b:Int):decide ((Sum.inl a:Key)=Sum.inl b)=(a == b):=by
 by_cases e:a=b
 ·subst e;simp
 ·have h:¬ (Sum.inl a:Key)=Sum.inl b:=fun q=>e (Sum.inl.inj q);rw [decide_eq_false h];exact (beq_eq_false_iff_ne.mpr e).symm
theorem b5X(a b:Str):decide ((Sum.inr a:Key)=Sum.inr b)=decide (a=b):=by
 by_cases e:a=b
 ·subst e;simp
 ·have h:¬ (Sum.inr a:Key)=Sum.inr b:=fun q=>e (Sum.inr.inj q);rw [decide_eq_false h,decide_eq_false e]
theorem b6Q(a:Int)(b:Str):decide ((Sum.inl a:Key)=Sum.inr b)=false:=decide_eq_false (fun q=>nomatch q)
theorem b6s(a:Str)(b:Int):decide ((Sum.inr a:Key)=Sum.inl b)=false:=decide_eq_false (fun q=>nomatch q)
def o7(prog:Program)(w:World):PySem.KeyKind prog w Key where
 is:=X0
 hash:=c1V w
 inj:=fun v a b ha hb=>by
  rcases u5 ha with ⟨i,t,rfl,rfl⟩ | ⟨x,t,rfl,rfl⟩
  ·rcases u5 hb with ⟨j,u,rfl,e⟩ | ⟨y,u,rfl,e⟩
   ·injection e with e1 _;rw [e1]
   ·exact nomatch e
  ·rcases u5 hb with ⟨j,u,rfl,e⟩ | ⟨y,u,rfl,e⟩
   ·exact nomatch e
   ·injection e with e1 _;rw [e1]
 byValue:=fun k v h=>by
  rcases u5 h with ⟨i,t,rfl,rfl⟩ | ⟨x,t,rfl,rfl⟩ <;> rfl
 pyHash:=fun hv h=>by
  rcases u5 hv with ⟨i,t,rfl,rfl⟩ | ⟨x,t,rfl,rfl⟩
  ·exact wpAny_pyHash_int h
  ·exact wpAny_pyHash_str h
 eqBool:=fun hu hv h=>by
  rcases u5 hu with ⟨i,t,rfl,rfl⟩ | ⟨x,t,rfl,rfl⟩
  ·rcases u5 hv with ⟨j,u,rfl,rfl⟩ | ⟨y,u,rfl,rfl⟩
   ·rw [b8E] at h;exact wpAny_eqBool_int h
   ·rw [b6Q] at h;exact SeqAt.EqAt.int_str i t y u _ _ _ _ h
  ·rcases u5 hv with ⟨j,u,rfl,rfl⟩ | ⟨y,u,rfl,rfl⟩
   ·rw [b6s] at h;exact SeqAt.EqAt.str_int x t j u _ _ _ _ h
   ·rw [b5X] at h;exact wpAny_eqBool_str h
 «strs»:=fun k x t v h=>by
  rcases u5 h with ⟨i,u,rfl,e⟩ | ⟨y,u,rfl,e⟩
  ·exact nomatch e
  ·injection e with e1 _
   subst e1
   cases v <;> rfl
theorem a2R(prog:Program)(w:World)(i:Int)(t:Tok):(o7 prog w).is (.inl i) (.int i t)=true:=a5N i t
theorem a2L(prog:Program)(w:World)(x:Str)(t:Tok):(o7 prog w).is (.inr x) (.str x t)=true:=a6h x t
end L2
namespace L2
open PySem PySem.Spec PyProof.Rows
inductive V where
 |non | bl (b:Bool) | int (i:Int) | str (x:Str) | byt (b:Array UInt8) | flt (b:UInt64) | ref (a:Addr) | ty (n:String)
 deriving DecidableEq
def RelV:V->Value->Prop
 |.non,u=>u=Value.none
 |.bl b,u=>u=Value.bool b
 |.int i,u=>∃ t,u=Value.int i t
 |.str x,u=>∃ t,u=Value.str x t
 |.byt b,u=>∃ t,u=Value.bytes b t
 |.flt b,u=>∃ t,u=Value.float b t
 |.ref a,u=>u=Value.ref a
 |.ty n,u=>u=Value.type n
abbrev Vals:List V->List Value->Prop:=Paired RelV
theorem Vals.length{xs:List V}{us:List Value}(r:Vals xs us):xs.length=us.length:=Paired.length r
theorem Vals.get:∀ {xs:List V} {us:List Value} {i:Nat} {x:V},Vals xs us->xs[i]?=some x->∃ u,us[i]?=some u/\RelV x u
 |_,_,_,_,.nil,e=>by simp at e
 |_,_,0,_,.cons r _,e=>by simp at e;subst e;exact ⟨_,rfl,r⟩
 |_,_,i + 1,x,.cons _ t,e=>by
  obtain ⟨u,h1,h2⟩:=Vals.get (i:=i) (x:=x) t (by simpa using e);exact ⟨u,by simpa using h1,h2⟩
theorem Vals.set{x:V}{u:Value}(r:RelV x u):∀ {xs:List V} {us:List Value} (i:Nat),Vals xs us->Vals (xs.set i x) (us.set i u)
 |_,_,_,.nil=>.nil
 |_,_,0,.cons _ t=>.cons r t
 |_,_,i + 1,.cons q t=>.cons q (Vals.set r i t)
theorem Vals.append:∀ {xs ys:List V} {us ws:List Value},Vals xs us->Vals ys ws->Vals (xs ++ ys) (us ++ ws)
 |_,_,_,_,.nil,s=>s
 |_,_,_,_,.cons r t,s=>.cons r (Vals.append t s)
theorem Vals.take:∀ {xs:List V} {us:List Value} (n:Nat),Vals xs us->Vals (xs.take n) (us.take n)
 |_,_,0,_=>.nil
 |_,_,_ + 1,.nil=>.nil
 |_,_,n + 1,.cons r t=>.cons r (Vals.take n t)
theorem Vals.drop:∀ {xs:List V} {us:List Value} (n:Nat),Vals xs us->Vals (xs.drop n) (us.drop n)
 |_,_,0,r=>r
 |_,_,_ + 1,.nil=>.nil
 |_,_,n + 1,.cons _ t=>Vals.drop n t
def RelO:Option V->Option Value->Prop
 |some v,some u=>RelV v u
 |none,none=>True
 |_,_=>False
def KV{κ:Type}:List (κ×V)->List (κ×Value)->Prop:=Paired fun (p:κ×V) (q:κ×Value)=>p.1=q.1/\RelV p.2 q.2
def kV:Key->V
 |.inl i=>.int i
 |.inr x=>.str x
inductive HO where
 |lst (xs:List V)
 |tup (xs:List V)
 |dK (kvs:List (Key×V)) | dT (kvs:List (List Key×V))
 |set (S:Int->Bool) (n:Nat)
 |ins (C dx:Addr) (fs:List (Str×V))
 |own (x:Addr)
 |xd (fs:List (Str×V))
 |met (f x:Addr)
 |rng (lo hi:Int)
 |frz (o:Obj) (u:HO)
 |tbl (ps:Array Value)
 |ext (φ:Heap->Prop)
abbrev Hp:=Addr->Option HO
def upd(H:Hp)(a:Addr)(o:HO):Hp:=fun b=>if b=a then some o else H b
theorem j7{H:Hp}{a:Addr}{o:HO}:upd H a o a=some o:=by unfold upd;rw [if_pos rfl]
theorem k6{H:Hp}{a b:Addr}{o:HO}(h:b ≠ a):upd H a o b=H b:=by unfold upd;rw [if_neg h]
theorem a7r{H:Hp}{a b:Addr}{o u:HO}(h:H a=some o)(h':H b=some u)(d:o ≠ u):a ≠ b:=by
 intro e;subst e;rw [h] at h';exact d (Option.some.inj h')
theorem B4{H:Hp}{a b:Addr}{o:HO}(h:H a=some o)(h':H b=none):a ≠ b:=by
 intro e;subst e;rw [h] at h';cases h'
section
variable (P:Program) (w:World)
def ObjOk(H:Hp)(h:Heap)(a:Addr):HO->Prop
 |.lst xs=>xs.length <= sizeLine/\∃ (its:List Value) (n:Nat),Vals xs its/\h.get? a=some { cls:=.type "list",data:=.seq its.toArray n }
 |.tup xs=>xs.length <= sizeLine/\∃ its:List Value,Vals xs its/\IsTup h a its.toArray
 |.dK kvs=>kvs.length <= sizeLine/\(a == sysModules)=false/\∃ vs,KV kvs vs/\h.DictOf (o7 P w) a vs
 |.dT kvs=>kvs.length <= sizeLine/\(a == sysModules)=false/\∃ xs:List (List Key×Addr×Value),
   Paired (fun (p:List Key×V) (q:List Key×Addr×Value)=>p.1=q.1/\H q.2.1=some (.tup (p.1.map kV))/\RelV p.2 q.2.2) kvs xs /\
   ∃ o es ep,h.get? a=some o/\o.ExactDict/\o.data = .dict es ep/\es.toList=xs.map (entryOfKey (tupleKind (o7 P w)))/\(xs.map (·.1)).Nodup
 |.set S n=>h.SetOf (intKind P w) a S n
 |.ins C dx fs=>H dx=some (.own a)/\fs.length <= 1000/\dx ≠ a/\h.get? a=some (PySem.W.instObj C dx) /\
   ∃ mA,h.Ns1 dx mA/\(∀ f,RelO (fs.lookup f) (mA f))/\PySem.Within mA (fs.map (·.1))
 |.own _=>∃ o,h.get? a=some o
 |.xd fs=>∃ mA,h.Ns1 a mA/\∀ f,RelO (fs.lookup f) (mA f)
 |.rng lo hi=>∃ t u v,h.get? a=some { cls:=.type "range",data:=.fields #[.int lo t,.int hi u,.int 1 v] }
 |.frz o u=>h.get? a=some o/\ObjOk H h a u
 |.tbl ps=>h.get? a=some { cls:=.none,data:=.fields ps }
 |.met f x=>h.get? a=some (PySem.W.methodObj (.ref f) (.ref x))
 |.ext φ=>φ h/\(∃ o,h.get? a=some o)/\∀ h1 h2:Heap,φ h1->(∀ o,h1.get? a=some o->h2.get? a=some o)->φ h2
def HOk(H:Hp)(h:Heap):Prop:=∀ a o,H a=some o->ObjOk P w H h a o
end
section
variable {P:Program} {w:World} {H H':Hp} {h h':Heap} {a:Addr} {o:HO}
theorem ObjOk.lt(x:ObjOk P w H h a o):a < h.objs.size:=by
 cases o with
 |lst xs=>obtain ⟨_,_,_,_,e⟩:=x;exact Heap.lt_size e
 |tup xs=>obtain ⟨_,_,_,p⟩:=x;exact p.lt
 |dK kvs=>obtain ⟨_,_,_,_,o,_,_,e,_⟩:=x;exact Heap.lt_size e
 |dT kvs=>obtain ⟨_,_,_,_,o,_,_,e,_⟩:=x;exact Heap.lt_size e
 |set S n=>obtain ⟨o,_,_,_,e,_⟩:=x;exact Heap.lt_size e
 |ins C dx fs=>obtain ⟨_,_,_,e,_⟩:=x;exact Heap.lt_size e
 |own y=>obtain ⟨_,e⟩:=x;exact Heap.lt_size e
 |xd fs=>obtain ⟨_,⟨_,_,_,e,_⟩,_⟩:=x;exact Heap.lt_size e
 |rng lo hi=>obtain ⟨_,_,_,e⟩:=x;exact Heap.lt_size e
 |frz ob u=>obtain ⟨e,_⟩:=x;exact Heap.lt_size e
 |tbl ps=>exact Heap.lt_size (show h.get? a=some _ from x)
 |met f y=>exact Heap.lt_size (show h.get? a=some _ from x)
 |ext φ=>obtain ⟨_,⟨_,e⟩,_⟩:=x;exact Heap.lt_size e
theorem Paired.mapP{α β:Type}{F G:α->β->Prop}{l₁:List α}{l₂:List β}(h:Paired F l₁ l₂)(f:∀ a b,F a b->G a b):Paired G l₁ l₂:=by
 induction h with
 |nil=>exact .nil
 |cons r _ ih=>exact .cons (f _ _ r) ih
theorem ObjOk.stay(x:ObjOk P w H h a o)(k:∀ b u,(b=a\/H b=some (.own a))->h.get? b=some u->h'.get? b=some u)
  (ho:∀ b,H b=some (.own a)->H' b=some (.own a)) (ht:∀ b xs,H b=some (.tup xs)->H' b=some (.tup xs)):ObjOk P w H' h' a o:=by
 induction o with
 |lst xs=>obtain ⟨z,its,n,r,e⟩:=x;exact ⟨z,its,n,r,k _ _ (.inl rfl) e⟩
 |tup xs=>obtain ⟨z,its,r,ob,e,c⟩:=x;exact ⟨z,its,r,ob,k _ _ (.inl rfl) e,c⟩
 |dK kvs=>obtain ⟨z,y,vs,r,ob,es,ep,e,c⟩:=x;exact ⟨z,y,vs,r,ob,es,ep,k _ _ (.inl rfl) e,c⟩
 |dT kvs =>
  obtain ⟨z,y,xs,r,ob,es,ep,e,c⟩:=x;exact ⟨z,y,xs,Paired.mapP r fun p q z=>⟨z.1,ht _ _ z.2.1,z.2.2⟩,ob,es,ep,k _ _ (.inl rfl) e,c⟩
 |set S n=>obtain ⟨ob,es,ep,t,e,c⟩:=x;exact ⟨ob,es,ep,t,k _ _ (.inl rfl) e,c⟩
 |ins C dx fs =>
  obtain ⟨d,z,ne,e,mA,⟨od,es,ep,e2,c⟩,r⟩:=x;exact ⟨ho _ d,z,ne,k _ _ (.inl rfl) e,mA,⟨od,es,ep,k _ _ (.inr d) e2,c⟩,r⟩
 |own y=>obtain ⟨ob,e⟩:=x;exact ⟨ob,k _ _ (.inl rfl) e⟩
 |xd fs=>obtain ⟨mA,⟨od,es,ep,e,c⟩,r⟩:=x;exact ⟨mA,⟨od,es,ep,k _ _ (.inl rfl) e,c⟩,r⟩
 |rng lo hi=>obtain ⟨t,u,v,e⟩:=x;exact ⟨t,u,v,k _ _ (.inl rfl) e⟩
 |frz ob u ih=>obtain ⟨e,q⟩:=x;exact ⟨k _ _ (.inl rfl) e,ih q⟩
 |tbl ps =>
  have e:h.get? a=some { cls:=.none,data:=.fields ps }:=x;show h'.get? a=some { cls:=.none,data:=.fields ps };exact k a _ (.inl rfl) e
 |met f y =>
  have e:h.get? a=some (PySem.W.methodObj (.ref f) (.ref y)):=x;show h'.get? a=some (PySem.W.methodObj (.ref f) (.ref y));exact k a _ (.inl rfl) e
 |ext φ=>obtain ⟨p,⟨o,e⟩,st⟩:=x;exact ⟨st _ _ p fun o q=>k _ _ (.inl rfl) q,⟨o,k _ _ (.inl rfl) e⟩,st⟩
theorem HOk.lt(x:HOk P w H h)(e:H a=some o):a < h.objs.size:=(x a o e).lt
theorem HOk.fresh(x:HOk P w H h)(e:h.objs.size <= a):H a=none:=by
 cases q:H a with
 |none=>rfl
 |some u=>exact absurd (Nat.lt_of_lt_of_le (x.lt q) e) (Nat.lt_irrefl _)
theorem HOk.kept(x:HOk P w H h)(k:∀ b u,h.get? b=some u->h'.get? b=some u):HOk P w H h':=fun a o e =>
 (x a o e).stay (fun b u _ q=>k b u q) (fun _ q=>q) fun _ _ q=>q
theorem HOk.laid(x:HOk P w H h)(k:∀ b u,h.get? b=some u->h'.get? b=some u)(hp:h.objs.size <= a)(new:ObjOk P w (upd H a o) h' a o):HOk P w (upd H a o) h':=fun b u e=>by
 have hn:=x.fresh hp
 by_cases hb:b=a
 ·subst hb;rw [j7] at e;cases e;exact new
 ·rw [k6 hb] at e;exact (x b u e).stay (fun c v _ q=>k c v q) (fun c q=>by rw [k6 (B4 q hn)];exact q) fun c xs q=>by rw [k6 (B4 q hn)];exact q
end
def Rd(H:Hp)(a:Addr)(u:HO):Prop:=H a=some u\/∃ o,H a=some (.frz o u)
theorem Rd.ok{P:Program}{w:World}{H:Hp}{h:Heap}{a:Addr}{u:HO}(r:Rd H a u)(x:HOk P w H h):ObjOk P w H h a u:=by
 rcases r with r | ⟨o,r⟩
 ·exact x a u r
 ·obtain ⟨_,q⟩:=x a _ r;exact q
def Mut:Option HO->Prop
 |some (.lst _)=>True
 |some (.dK _)=>True
 |some (.dT _)=>True
 |some (.set _ _)=>True
 |some (.ins _ _ _)=>True
 |some (.ext _)=>True
 |_=>False
section
variable {P:Program} {w:World} {H:Hp} {h h':Heap} {x e:Addr} {o':HO}
theorem HOk.write(ok:HOk P w H h)(mu:Mut (H x))(he:e=x\/H e=some (.own x))(k:∀ b u,b ≠ e->h.get? b=some u->h'.get? b=some u)(heo:∃ u,h'.get? e=some u)
  (new:ObjOk P w (upd H x o') h' x o'):HOk P w (upd H x o') h':=fun b u q=>by
 have nown:∀ c y,H c=some (.own y)->c ≠ x:=fun c y r z=>by subst z;rw [r] at mu;exact mu
 have ntup:∀ c xs,H c=some (.tup xs)->c ≠ x:=fun c xs r z=>by subst z;rw [r] at mu;exact mu
 by_cases hb:b=x
 ·subst hb;rw [j7] at q;cases q;exact new
 ·rw [k6 hb] at q
  by_cases hbe:b=e
  ·have q':H b=some (.own x):=by
    rcases he with z | z
    ·exact absurd (hbe.trans z) hb
    ·rw [hbe];exact z
   rw [q] at q';cases q'
   obtain ⟨v,hv⟩:=heo;exact ⟨v,by rw [hbe];exact hv⟩
  ·refine (ok b u q).stay (fun c v hc r=>k c v ?_ r) (fun c r=>by rw [k6 (nown c b r)];exact r) fun c xs r=>by rw [k6 (ntup c xs r)];exact r
   rcases hc with rfl | hc
   ·exact hbe
   ·rintro rfl
    rcases he with z | z
    ·exact nown c b hc z
    ·rw [hc] at z;cases z;exact hb rfl
end
structure Un(fs ex:List Addr)(H H':Hp)(h h':Heap):Prop where
 keep:∀ b o,h.get? b=some o->H b=none->b ∉ fs->b ∉ ex->h'.get? b=some o
 slot:∀ b o,h.get? b=some o->H b=none->b ∈ fs->b ∉ ex->∃ sl,h'.get? b=some { o with slots:=sl }
 free:∀ b o,h.get? b=some o->H b=none->b ∉ ex->H' b=none
 there:∀ b o,h.get? b=some o->b ∉ ex->∃ o',h'.get? b=some o'
 tups:∀ b xs,H b=some (.tup xs)->H' b=some (.tup xs)
 frzs:∀ b o u,H b=some (.frz o u)->H' b=some (.frz o u)
 tbls:∀ b ps,H b=some (.tbl ps)->∃ more,H' b=some (.tbl (ps ++ more))
section
variable {fs fs' ex ex':List Addr} {H H1 H2:Hp} {h h1 h2 h':Heap} {a x e:Addr} {o:HO}
theorem Un.any(u:Un fs ex H H1 h h1){b:Addr}{ob:Obj}(q:h.get? b=some ob)(n:H b=none)(hx:b ∉ ex):∃ sl,h1.get? b=some { ob with slots:=sl }:=by
 by_cases hb:b ∈ fs
 ·exact u.slot b ob q n hb hx
 ·exact ⟨ob.slots,u.keep b ob q n hb hx⟩
theorem Un.kept(k:∀ b u,h.get? b=some u->h'.get? b=some u):Un fs ex H H h h' :=
 ⟨fun b ob q _ _ _=>k b ob q,fun b ob q _ _ _=>⟨ob.slots,k b ob q⟩,fun _ _ _ n _=>n,fun b ob q _=>⟨ob,k b ob q⟩,fun _ _ q=>q,fun _ _ _ q=>q,fun _ ps q=>⟨#[],by rw [q];simp⟩⟩
theorem Un.refl:Un fs ex H H h h:=Un.kept fun _ _ q=>q
theorem Un.laid(k:∀ b u,h.get? b=some u->h'.get? b=some u)(hp:h.objs.size <= a)(hn:H a=none):Un fs ex H (upd H a o) h h' where
 keep:=fun b u q _ _ _=>k b u q
 slot:=fun b u q _ _ _=>⟨u.slots,k b u q⟩
 free:=fun b u q n _=>by rw [k6 (Nat.ne_of_lt (Nat.lt_of_lt_of_le (Heap.lt_size q) hp))];exact n
 there:=fun b u q _=>⟨u,k b u q⟩
 tups:=fun b xs q=>by rw [k6 (B4 q hn)];exact q
 frzs:=fun b u xs q=>by rw [k6 (B4 q hn)];exact q
 tbls:=fun b ps q=>⟨#[],by rw [k6 (B4 q hn),q];simp⟩
theorem Un.write(mu:Mut (H x))(he:e=x\/H e=some (.own x))(k:∀ b u,b ≠ e->h.get? b=some u->h'.get? b=some u)(heo:∃ u,h'.get? e=some u):Un fs ex H (upd H x o) h h':=by
 have hx:∀ b,H b=none->b ≠ x:=fun b n z=>by subst z;rw [n] at mu;exact mu
 have hb:∀ b,H b=none->b ≠ e:=fun b n z=>by
  subst z
  rcases he with r | r
  ·exact hx b n r
  ·rw [n] at r;cases r
 have hm:∀ b u,H b=some u->¬ Mut (some u)->b ≠ x:=fun b u q nm z=>by subst z;rw [q] at mu;exact nm mu
 refine ⟨fun b u q n _ _=>k b u (hb b n) q,fun b u q n _ _=>⟨u.slots,k b u (hb b n) q⟩,fun b u q n _=>by rw [k6 (hx b n)];exact n,fun b u q _=>?_,
  fun b xs q=>by rw [k6 (hm b _ q fun z=>z)];exact q,fun b u xs q=>by rw [k6 (hm b _ q fun z=>z)];exact q,fun b ps q=>⟨#[],by rw [k6 (hm b _ q fun z=>z),q];simp⟩⟩
 by_cases hbe:b=e
 ·subst hbe;exact heo
 ·exact ⟨u,k b u hbe q⟩
end
def trk(h:Heap)(H:Hp):List Addr:=(List.range h.objs.size).filter fun a=>(H a).isSome
def a1Q(h:Heap)(H:Hp):Heap:=PySem.W.hideAll h (trk h H)
theorem a6g(h:Heap)(H:Hp):(a1Q h H).objs.size=h.objs.size:=PySem.W.hideAll_size _ _
theorem b0K{h:Heap}{H:Hp}{b:Addr}{o:Obj}(e:h.get? b=some o)(n:H b=none):(a1Q h H).get? b=some o :=
 PySem.W.hideAll_get _ e fun hm=>by
  have q:(H b).isSome=true:=(List.mem_filter.mp hm).2;rw [n] at q;simp at q
theorem b1N{h:Heap}{H:Hp}{b:Addr}{o:Obj}(e:(a1Q h H).get? b=some o):h.get? b=some o/\H b=none:=by
 have e':h.get? b=some o:=PySem.W.of_hideAll (trk h H) e;refine ⟨e',?_⟩
 cases q:H b with
 |none=>rfl
 |some x =>
  have hm:b ∈ trk h H:=List.mem_filter.mpr ⟨List.mem_range.mpr (Heap.lt_size e'),by simp [q]⟩;have z:(a1Q h H).get? b=none:=PySem.W.hideAll_none (trk h H) hm;rw [z] at e;cases e
end L2
namespace L2
open PySem PySem.Spec PyProof.Rows
structure Mod(K:PySem.W.Frag)(mg:Str->Option Value)(base:Heap):Prop where
 kin:K.In base
 glob:base.Ns mainGlobals mg
 blt:∃ mb,base.Ns builtinsNs mb/\∀ x:Str,x ≠ "__name__"->mb x=bootBuiltins x
 nolimit:base.NoLimit
set_option genInjectivity false in
structure Cx where
 prog:Program
 w:World
 K:PySem.W.Frag
 mg:Str->Option Value
 base:Heap
 A:Around
 N:List Str
 s₀:Shared
 H₀:Hp
 env:Env
 outer:List Env
 stack:List Env
 ex:List Addr
 fn:Str->Bool
 calm:Bool
 pn:List (Addr×Obj)
 xe:Value->Shared->Prop
 ex9:Value->Option Addr->Hp->Prop:=fun _ _ _=>False
def frs(l:List Env):List Addr:=l.filterMap (·.frame)
abbrev Cx.fs(X:Cx):List Addr:=frs X.outer
def Vis(sc:Scope)(x:Str):Prop:=sc.names.lookup x=some .local\/sc.names.lookup x=some .cell\/sc.names.lookup x=some .free
def Loc(sc:Scope)(x:Str):Prop:=sc.names.lookup x=some .local\/sc.names.lookup x=some .cell
def c2k(env:Env)(h:Heap)(m:Str->Option Value)(x:Str)(u:Value):Prop :=
 (env.kindOf x=some .local/\m x=some u)\/((env.kindOf x=some .cell\/env.kindOf x=some .free)/\∃ c,env.cells.lookup x=some c/\h.IsCell c (some u))
structure Cx.Ok(X:Cx):Prop where
 mod:Mod X.K X.mg X.base
 kind:X.env.scope.kind = .function
 glob:X.env.globals=mainGlobals
 blt:X.env.builtins=builtinsNs
 above:X.s₀.heap.objs.size <= X.env.locals
 inj:∀ x y c,X.env.cells.lookup x=some c->X.env.cells.lookup y=some c->x=y
 has:∀ x,(X.env.kindOf x=some .cell\/X.env.kindOf x=some .free)->∃ c,X.env.cells.lookup x=some c
 cab:∀ x c,X.fn x=true->X.env.cells.lookup x=some c->X.s₀.heap.objs.size <= c
 hd:X.calm=true->X.A.handled=none
 frames:X.A.frames=some X.stack
 stk:X.stack=X.outer\/(X.stack=X.env :: X.outer/\X.env.frame=some X.env.locals)
 exf:∀ b ∈ X.ex,b ≠ X.env.locals/\∀ x c,X.env.cells.lookup x=some c->c ≠ b
 bs:∀ b o,X.base.get? b=some o->X.s₀.heap.get? b=some o/\X.H₀ b=none
 bsz:X.base.objs.size <= X.s₀.heap.objs.size
 noex:∀ b o,X.base.get? b=some o->b ∉ X.ex
 exfs:∀ b ∈ X.ex,b ∉ X.fs
 funs:X.s₀.heap.FunFrames X.base X.outer
 frf:∀ b ∈ X.fs,X.H₀ b=none
structure Inv(X:Cx)(pins:List (Addr×Obj))(σ:List (Option V))(H:Hp)(s:Shared):Prop where
 ok:X.Ok
 os:s.os=X.s₀.os
 bare:AllBare s.gens
 base:Un X.fs X.ex X.H₀ H X.s₀.heap s.heap
 loc:∃ m,s.heap.Ns X.env.locals m/\∀ (i:Nat) (x:Str) (v:V),X.N[i]?=some x->σ[i]?=some (some v)->Vis X.env.scope x->∃ u,RelV v u/\c2k X.env s.heap m x u
 cell:∀ x c,X.env.cells.lookup x=some c->∃ v,s.heap.IsCell c v
 free:H X.env.locals=none
 freeC:∀ x c,X.env.cells.lookup x=some c->H c=none
 pin:∀ p ∈ X.pn ++ pins,s.heap.get? p.1=some p.2/\H p.1=none/\p.1 ≠ X.env.locals/\p.1 ∉ X.fs/\∀ v,p.2.data ≠ .cell v
 hok:HOk X.prog X.w H s.heap
 len:σ.length=X.N.length
section
variable {X:Cx} {pins:List (Addr×Obj)} {σ:List (Option V)} {H H':Hp} {s:Shared} {h':Heap}
theorem Cx.Ok.nofr(ok:X.Ok){b:Addr}{o:Obj}(e:X.base.get? b=some o):b ∉ X.fs:=fun hb=>by
 have:=(ok.funs.mem hb).1
 rw [e] at this;cases this
theorem Inv.bs(I:Inv X pins σ H s):∀ b o,X.base.get? b=some o->s.heap.get? b=some o/\H b=none:=fun b o e =>
 ⟨I.base.keep b o (I.ok.bs b o e).1 (I.ok.bs b o e).2 (I.ok.nofr e) (I.ok.noex b o e),I.base.free b o (I.ok.bs b o e).1 (I.ok.bs b o e).2 (I.ok.noex b o e)⟩
theorem Inv.bk(I:Inv X pins σ H s):∀ b o,X.base.get? b=some o->s.heap.get? b=some o:=fun b o e=>(I.bs b o e).1
theorem Inv.mod(I:Inv X pins σ H s):Mod X.K X.mg X.base:=I.ok.mod
theorem Inv.kIn(I:Inv X pins σ H s):X.K.In s.heap:=I.ok.mod.kin.keeps I.bk
theorem Inv.lt(I:Inv X pins σ H s):X.env.locals < s.heap.objs.size:=let ⟨_,hn,_⟩:=I.loc;hn.lt
theorem Inv.sz(I:Inv X pins σ H s):X.s₀.heap.objs.size <= s.heap.objs.size:=Nat.le_trans I.ok.above (Nat.le_of_lt I.lt)
theorem Inv.nofs(I:Inv X pins σ H s){a:Addr}(h:s.heap.objs.size <= a):a ∉ X.fs:=fun hb=>by
 obtain ⟨_,o,ho,_⟩:=I.ok.funs.mem hb;exact absurd (Nat.lt_of_lt_of_le (Heap.lt_size ho) (Nat.le_trans I.sz h)) (Nat.lt_irrefl _)
theorem Inv.cne(I:Inv X pins σ H s):∀ x c,X.env.cells.lookup x=some c->c ≠ X.env.locals:=fun x c e z=>by
 obtain ⟨v,o,ho,hd⟩:=I.cell x c e;obtain ⟨m,⟨o',es,ep,ho',hd',_⟩,_⟩:=I.loc;rw [z,ho'] at ho;cases ho;rw [hd'] at hd;cases hd
theorem Inv.funs(I:Inv X pins σ H s):s.heap.FunFrames X.base X.outer:=by
 have all:∀ (l:List Env),(∀ b ∈ frs l,b ∈ X.fs)->X.s₀.heap.FunFrames X.base l->s.heap.FunFrames X.base l:=by
  intro l
  induction l with
  |nil=>intro _ _;trivial
  |cons env r ih =>
   intro hs hl;obtain ⟨hk,⟨L,o,hf,hn,ho,hd⟩,hr⟩:=hl;have hL:L ∈ X.fs:=hs L (by unfold frs;rw [List.filterMap_cons,hf];exact List.mem_cons_self);obtain ⟨sl,e⟩:=I.base.slot L o ho (I.ok.frf L hL) hL fun z=>I.ok.exfs L z hL;exact ⟨hk,⟨L,_,hf,hn,e,hd⟩,ih (fun b hb=>hs b (by unfold frs;rw [List.filterMap_cons,hf];exact List.mem_cons_of_mem _ hb)) hr⟩
 exact all X.outer (fun _ hb=>hb) I.ok.funs
theorem Inv.stack(I:Inv X pins σ H s):s.heap.FunFrames X.base X.stack:=by
 rcases I.ok.stk with e | ⟨e,hf⟩
 ·rw [e];exact I.funs
 ·rw [e];obtain ⟨m,hn,_⟩:=I.loc;refine .cons (by rw [I.ok.kind];decide) hf hn ?_ I.funs;exact Heap.get?_none_of_le (Nat.le_trans I.ok.bsz I.ok.above)
theorem Inv.stkSub(I:Inv X pins σ H s):∀ b ∈ frs X.stack,b ∈ X.env.locals :: X.fs:=fun b hb=>by
 rcases I.ok.stk with e | ⟨e,hf⟩
 ·rw [e] at hb;exact List.mem_cons_of_mem _ hb
 ·rw [e] at hb;unfold frs at hb;rw [List.filterMap_cons,hf] at hb;exact hb
theorem Inv.stkFree(I:Inv X pins σ H s):∀ b ∈ frs X.stack,H b=none:=fun b hb=>by
 rcases List.mem_cons.mp (I.stkSub b hb) with e | hb
 ·rw [e];exact I.free
 ·obtain ⟨_,o,ho,_⟩:=I.ok.funs.mem hb;exact I.base.free b o ho (I.ok.frf b hb) fun z=>I.ok.exfs b z hb
theorem Inv.step{g':Array GenState}{t':Nat}{d':Drawn}{ch:List Addr}(I:Inv X pins σ H s)
  (hch:∀ b ∈ ch,(b ∈ X.ex\/X.s₀.heap.objs.size <= b)/\b ≠ X.env.locals/\(∀ x c,X.env.cells.lookup x=some c->c ≠ b)/\∀ p ∈ X.pn ++ pins,p.1 ≠ b)
  (keep:∀ b o,b ≠ X.env.locals->b ∉ X.fs->b ∉ ch->s.heap.get? b=some o->H b=none->h'.get? b=some o)
  (slot:∀ b o,b ≠ X.env.locals->b ∈ X.fs->b ∉ ch->s.heap.get? b=some o->H b=none->∃ sl,h'.get? b=some { o with slots:=sl }) (free:∀ b o,b ∉ ch->s.heap.get? b=some o->H b=none->H' b=none)
  (there:∀ b o,b ∉ ch->s.heap.get? b=some o->∃ o',h'.get? b=some o')
  (tups:∀ b xs,H b=some (.tup xs)->H' b=some (.tup xs)) (frzs:∀ b o u,H b=some (.frz o u)->H' b=some (.frz o u)) (tbls:∀ b ps,H b=some (.tbl ps)->∃ more,H' b=some (.tbl (ps ++ more)))
  (ns:∀ m,s.heap.Ns X.env.locals m->h'.Ns X.env.locals m) (hok:HOk X.prog X.w H' h') (hg:AllBare g') :
  Inv X pins σ H' { s with heap:=h',gens:=g',drawn:=d',toks:=t' }:=by
 have neL:∀ b o,X.s₀.heap.get? b=some o->b ≠ X.env.locals:=fun b o e=>Nat.ne_of_lt (Nat.lt_of_lt_of_le (Heap.lt_size e) I.ok.above)
 have neC:∀ b o,X.s₀.heap.get? b=some o->b ∉ X.ex->b ∉ ch:=fun b o e hx hb=>by
  rcases (hch b hb).1 with z | z
  ·exact hx z
  ·exact absurd (Nat.lt_of_lt_of_le (Heap.lt_size e) z) (Nat.lt_irrefl _)
 have cellK:∀ x c,X.env.cells.lookup x=some c->∀ v,s.heap.IsCell c v->h'.IsCell c v:=fun x c e v zz0=>by
  obtain ⟨o,ho,hd⟩:=zz0;have nch:c ∉ ch:=fun z=>(hch c z).2.2.1 x c e rfl
  by_cases hc:c ∈ X.fs
  ·obtain ⟨sl,q⟩:=slot c o (I.cne x c e) hc nch ho (I.freeC x c e);exact ⟨_,q,hd⟩
  ·exact ⟨o,keep c o (I.cne x c e) hc nch ho (I.freeC x c e),hd⟩
 refine ⟨I.ok,I.os,hg,⟨fun b o e n hb hx=>?_,fun b o e n hb hx=>?_,fun b o e n hx=>?_,fun b o e hx=>?_,fun b xs e=>tups b xs (I.base.tups b xs e),fun b o xs e=>frzs b o xs (I.base.frzs b o xs e),fun b ps e=>?_⟩,?_,fun x c e=>?_,?_,fun x c e=>?_,fun p hp=>?_,hok,I.len⟩
 ·exact keep b o (neL b o e) hb (neC b o e hx) (I.base.keep b o e n hb hx) (I.base.free b o e n hx)
 ·obtain ⟨sl,e1⟩:=I.base.slot b o e n hb hx;obtain ⟨sl',e2⟩:=slot b _ (neL b o e) hb (neC b o e hx) e1 (I.base.free b o e n hx);exact ⟨sl',e2⟩
 ·obtain ⟨o',e1⟩:=I.base.there b o e hx;exact free b o' (neC b o e hx) e1 (I.base.free b o e n hx)
 ·obtain ⟨o',e1⟩:=I.base.there b o e hx;exact there b o' (neC b o e hx) e1
 ·obtain ⟨m1,e1⟩:=I.base.tbls b ps e;obtain ⟨m2,e2⟩:=tbls b _ e1;exact ⟨m1 ++ m2,by rw [e2,Array.append_assoc]⟩
 ·obtain ⟨m,hn,hl⟩:=I.loc;refine ⟨m,ns m hn,fun i x v e1 e2 e3=>?_⟩;obtain ⟨u,r,l⟩:=hl i x v e1 e2 e3;refine ⟨u,r,?_⟩
  rcases l with l | ⟨k,c,e,z⟩
  ·exact .inl l
  ·exact .inr ⟨k,c,e,cellK x c e _ z⟩
 ·obtain ⟨v,z⟩:=I.cell x c e;exact ⟨v,cellK x c e v z⟩
 ·obtain ⟨m,⟨o,_,_,ho,_⟩,_⟩:=I.loc;exact free _ o (fun z=>(hch _ z).2.1 rfl) ho I.free
 ·obtain ⟨v,o,ho,hd⟩:=I.cell x c e;exact free c o (fun z=>(hch c z).2.2.1 x c e rfl) ho (I.freeC x c e)
 ·obtain ⟨e,n,ne,nf,d⟩:=I.pin p hp;have nch:p.1 ∉ ch:=fun z=>(hch p.1 z).2.2.2 p hp rfl;exact ⟨keep p.1 p.2 ne nf nch e n,free p.1 p.2 nch e n,ne,nf,d⟩
theorem Inv.un{t':Nat}(I:Inv X pins σ H s)(u:Un X.fs [] H H' s.heap h')(hok:HOk X.prog X.w H' h'):Inv X pins σ H' { s with heap:=h',toks:=t' }:=by
 obtain ⟨m,⟨o,es,ep,ho,r⟩,_⟩:=id I.loc;obtain ⟨sl,hL⟩:=u.any ho I.free (by simp)
 exact I.step (g':=s.gens) (d':=s.drawn) (ch:=[]) (fun _ z=>nomatch z) (fun b o _ hb _ e n=>u.keep b o e n hb (by simp)) (fun b o _ hb _ e n=>u.slot b o e n hb (by simp)) (fun b o _ e n=>u.free b o e n (by simp)) (fun b o _ e=>u.there b o e (by simp)) u.tups u.frzs u.tbls (fun m' hm=>by
  obtain ⟨o',es',ep',ho',r'⟩:=hm;rw [ho] at ho';cases ho'
  exact ⟨_,es',ep',hL,r'⟩) hok I.bare
theorem Inv.call{g':Array GenState}{t':Nat}{d':Drawn}{ch:List Addr}(I:Inv X pins σ H s)(u:Un (frs X.stack) ch H H' s.heap h')(hok:HOk X.prog X.w H' h')(hg:AllBare g')
  (hch:∀ b ∈ ch,(b ∈ X.ex\/X.s₀.heap.objs.size <= b)/\b ≠ X.env.locals/\(∀ x c,X.env.cells.lookup x=some c->c ≠ b)/\∀ p ∈ X.pn ++ pins,p.1 ≠ b) :
  Inv X pins σ H' { s with heap:=h',gens:=g',drawn:=d',toks:=t' }:=by
 obtain ⟨m,⟨o,es,ep,ho,r⟩,_⟩:=id I.loc;obtain ⟨sl,hL⟩:=u.any ho I.free fun z=>(hch _ z).2.1 rfl
 exact I.step (ch:=ch) hch (fun b o hL hb hc e n=>u.keep b o e n (fun z=>(List.mem_cons.mp (I.stkSub b z)).elim hL hb) hc) (fun b o _ _ hc e n=>u.any e n hc) (fun b o hc e n=>u.free b o e n hc) (fun b o hc e=>u.there b o e hc) u.tups u.frzs u.tbls (fun m' hm=>by
  obtain ⟨o',es',ep',ho',r'⟩:=hm;rw [ho] at ho';cases ho'
  exact ⟨_,es',ep',hL,r'⟩) hok hg
theorem Inv.turned{t':Nat}{it:Addr}(I:Inv X pins σ H s)(k:∀ b o,b ≠ it->s.heap.get? b=some o->h'.get? b=some o)(hn:H it=none)(hL:it ≠ X.env.locals)
  (h1:it ∈ X.ex\/X.s₀.heap.objs.size <= it) (h2:∀ x c,X.env.cells.lookup x=some c->c ≠ it) (h3:∀ p ∈ X.pn ++ pins,p.1 ≠ it):Inv X pins σ H { s with heap:=h',toks:=t' }:=by
 have nit:∀ b u,H b=some u->b ≠ it:=fun b u e z=>by rw [z,hn] at e;cases e
 refine I.step (g':=s.gens) (d':=s.drawn) (ch:=[it]) (fun b hb=>?_) (fun b o _ _ hc e _=>k b o (fun z=>hc (by simp [z])) e) (fun b o _ _ hc e _=>⟨o.slots,k b o (fun z=>hc (by simp [z])) e⟩) (fun _ _ _ _ n=>n)
  (fun b o hc e=>⟨o,k b o (fun z=>hc (by simp [z])) e⟩) (fun _ _ e=>e) (fun _ _ _ e=>e) (fun b ps e=>⟨#[],by rw [e];simp⟩) (fun m hm=>?_) (fun b u e=>?_) I.bare
 ·have e:b=it:=by simpa using hb
  subst e;exact ⟨h1,hL,h2,h3⟩
 ·obtain ⟨o,es,ep,ho,r⟩:=hm;exact ⟨o,es,ep,k _ o (Ne.symm hL) ho,r⟩
 ·refine (I.hok b u e).stay (fun c v hc q=>k c v ?_ q) (fun _ q=>q) fun _ _ q=>q
  rcases hc with z | z
  ·rw [z];exact nit b u e
  ·exact nit c _ z
theorem Inv.tok(I:Inv X pins σ H s)(t:Nat):Inv X pins σ H { s with toks:=t }:=I.un (h':=s.heap) (t':=t) Un.refl I.hok
theorem Inv.kept{t':Nat}(I:Inv X pins σ H s)(k:∀ b u,s.heap.get? b=some u->h'.get? b=some u):Inv X pins σ H { s with heap:=h',toks:=t' }:=I.un (Un.kept k) (I.hok.kept k)
theorem Inv.laid{a:Addr}{o:HO}{t':Nat}(I:Inv X pins σ H s)(k:∀ b u,s.heap.get? b=some u->h'.get? b=some u)(hp:s.heap.objs.size <= a)(new:ObjOk X.prog X.w (upd H a o) h' a o) :
  Inv X pins σ (upd H a o) { s with heap:=h',toks:=t' }:=I.un (Un.laid k hp (I.hok.fresh hp)) (I.hok.laid k hp new)
theorem Inv.write{x e:Addr}{o:HO}{t':Nat}(I:Inv X pins σ H s)(mu:Mut (H x))(he:e=x\/H e=some (.own x))(k:∀ b u,b ≠ e->s.heap.get? b=some u->h'.get? b=some u)(heo:∃ u,h'.get? e=some u)
  (new:ObjOk X.prog X.w (upd H x o) h' x o):Inv X pins σ (upd H x o) { s with heap:=h',toks:=t' }:=I.un (Un.write mu he k heo) (I.hok.write mu he k heo new)
theorem Inv.pins_of{pins':List (Addr×Obj)}(I:Inv X pins σ H s)(h:∀ p ∈ pins',s.heap.get? p.1=some p.2/\H p.1=none/\p.1 ≠ X.env.locals/\p.1 ∉ X.fs/\∀ v,p.2.data ≠ .cell v):Inv X pins' σ H s :=
 ⟨I.ok,I.os,I.bare,I.base,I.loc,I.cell,I.free,I.freeC,fun p hp=>(List.mem_append.mp hp).elim (fun z=>I.pin p (List.mem_append_left _ z)) (h p),I.hok,I.len⟩
theorem a3J{N:List Str}(hN:N.Nodup){i j:Nat}{x:Str}(a:N[i]?=some x)(b:N[j]?=some x):i=j:=by
 obtain ⟨h1,e1⟩:=List.getElem?_eq_some_iff.mp a;obtain ⟨h2,e2⟩:=List.getElem?_eq_some_iff.mp b;exact (List.getElem_inj hN).mp (e1.trans e2.symm)
theorem a1d{M:Model}{A:Around}{E:Value->Shared->Prop}{i:Nat}{x:Str}{v:V}{u:Value}{Q:Unit->Shared->Prop}(I:Inv X pins σ H s)(hN:X.N.Nodup)(hi:X.N[i]?=some x)(hx:Loc X.env.scope x)(r:RelV v u)
  (h:∀ s',Inv X pins (σ.set i (some v)) H s'->(∃ a,Heap.SameBut a s.heap s'.heap/\(a=X.env.locals\/X.env.cells.lookup x=some a))->Q () s') (hf:X.fn x=true\/X.env.scope.names.lookup x=some .local:=by trivial):wpAny M A (storeName X.env x u) Q E s:=by
 obtain ⟨m,hn,hl⟩:=id I.loc;have hcls:(X.env.scope.kind == .class || (X.env.scope.kind == .module && X.env.locals != X.env.globals))=false:=by rw [I.ok.kind];rfl
 have hiσ:i < σ.length:=by rw [I.len];exact (List.getElem?_eq_some_iff.mp hi).1
 have cne:=I.cne
 have tracked:∀ {a:Addr} {h':Heap},(∃ o,s.heap.get? a=some o/\H a=none)->Heap.SameBut a s.heap h'->HOk X.prog X.w H h':=fun {a h'} ha hs b ob e=>by
  obtain ⟨_,_,hfree⟩:=ha;refine (I.hok b ob e).stay (fun c w' hc q=>(hs.2 c ?_).trans q) (fun _ q=>q) fun _ _ q=>q
  rintro rfl
  rcases hc with rfl | hc
  ·rw [hfree] at e;cases e
  ·rw [hfree] at hc;cases hc
 rcases hx with hk | hk
 ·refine wpAny_storeName_local hk hn (fun h' hn' hs=>?_) hcls;obtain ⟨oL,_,_,hoL,_⟩:=id hn;refine h _ ⟨I.ok,I.os,I.bare,⟨fun b o e n hb hx=>?_,fun b o e n hb hx=>?_,I.base.free,fun b o e hx=>?_,I.base.tups,I.base.frzs,I.base.tbls⟩,⟨_,hn',fun j y v' e1 e2 e3=>?_⟩,fun y c e=>?_,I.free,I.freeC,fun p hp=>?_,tracked ⟨oL,hoL,I.free⟩ hs,by simpa using I.len⟩ ⟨_,hs,.inl rfl⟩
  ·exact (hs.2 b (Nat.ne_of_lt (Nat.lt_of_lt_of_le (Heap.lt_size e) I.ok.above))).trans (I.base.keep b o e n hb hx)
  ·obtain ⟨sl,e1⟩:=I.base.slot b o e n hb hx;exact ⟨sl,(hs.2 b (Nat.ne_of_lt (Nat.lt_of_lt_of_le (Heap.lt_size e) I.ok.above))).trans e1⟩
  ·obtain ⟨o',e1⟩:=I.base.there b o e hx;exact ⟨o',(hs.2 b (Nat.ne_of_lt (Nat.lt_of_lt_of_le (Heap.lt_size e) I.ok.above))).trans e1⟩
  ·by_cases hj:j=i
   ·subst hj;rw [hi] at e1;cases e1;rw [List.getElem?_set_self hiσ] at e2;cases e2;exact ⟨u,r,.inl ⟨hk,by simp⟩⟩
   ·rw [List.getElem?_set_ne (Ne.symm hj)] at e2;obtain ⟨u',r',q⟩:=hl j y v' e1 e2 e3;refine ⟨u',r',?_⟩
    rcases q with ⟨k,e⟩ | ⟨k,c,e,z⟩
    ·refine .inl ⟨k,?_⟩
     have:y ≠ x:=fun e=>hj (a3J hN e1 (e ▸ hi))
     simp [this,e]
    ·exact .inr ⟨k,c,e,z.sameBut hs (cne y c e)⟩
  ·obtain ⟨w',z⟩:=I.cell y c e;exact ⟨w',z.sameBut hs (cne y c e)⟩
  ·obtain ⟨e,n,ne,nf,d⟩:=I.pin p hp;exact ⟨(hs.2 p.1 ne).trans e,n,ne,nf,d⟩
 ·have hfn:X.fn x=true:=by
   rcases hf with z | z
   ·exact z
   ·rw [z] at hk;cases hk
  obtain ⟨c,hc⟩:=I.ok.has x (.inl hk);obtain ⟨w',z⟩:=I.cell x c hc;refine wpAny_storeName_cell I.ok.kind hk hc z (fun h' hc' hs=>?_);obtain ⟨oc,hoc,hocd⟩:=id z;refine h { s with heap:=h' } ⟨I.ok,I.os,I.bare,⟨fun b o e n hb hx=>?_,fun b o e n hb hx=>?_,I.base.free,fun b o e hx=>?_,I.base.tups,I.base.frzs,I.base.tbls⟩,⟨m,hn.sameBut hs (Ne.symm (cne x c hc)),fun j y v' e1 e2 e3=>?_⟩,fun y c' e=>?_,I.free,I.freeC,fun p hp=>?_,tracked ⟨oc,hoc,I.freeC x c hc⟩ hs,by simpa using I.len⟩ ⟨c,hs,.inr hc⟩
  ·exact (hs.2 b (Nat.ne_of_lt (Nat.lt_of_lt_of_le (Heap.lt_size e) (I.ok.cab x c hfn hc)))).trans (I.base.keep b o e n hb hx)
  ·obtain ⟨sl,e1⟩:=I.base.slot b o e n hb hx;exact ⟨sl,(hs.2 b (Nat.ne_of_lt (Nat.lt_of_lt_of_le (Heap.lt_size e) (I.ok.cab x c hfn hc)))).trans e1⟩
  ·obtain ⟨o',e1⟩:=I.base.there b o e hx;exact ⟨o',(hs.2 b (Nat.ne_of_lt (Nat.lt_of_lt_of_le (Heap.lt_size e) (I.ok.cab x c hfn hc)))).trans e1⟩
  ·by_cases hj:j=i
   ·subst hj;rw [hi] at e1;cases e1;rw [List.getElem?_set_self hiσ] at e2;cases e2;exact ⟨u,r,.inr ⟨.inl hk,c,hc,hc'⟩⟩
   ·rw [List.getElem?_set_ne (Ne.symm hj)] at e2;obtain ⟨u',r',q⟩:=hl j y v' e1 e2 e3;refine ⟨u',r',?_⟩
    rcases q with q | ⟨k,c',e,z'⟩
    ·exact .inl q
    ·refine .inr ⟨k,c',e,z'.sameBut hs ?_⟩
     rintro rfl
     exact hj (a3J hN e1 (I.ok.inj _ _ _ e hc ▸ hi))
  ·by_cases hcc:c'=c
   ·subst hcc;exact ⟨_,hc'⟩
   ·obtain ⟨w2,z2⟩:=I.cell y c' e;exact ⟨w2,z2.sameBut hs hcc⟩
  ·obtain ⟨e,n,ne,nf,d⟩:=I.pin p hp;refine ⟨(hs.2 p.1 ?_).trans e,n,ne,nf,d⟩;intro q;rw [q,hoc] at e;have q':oc=p.2:=Option.some.inj e;exact d w' (by rw [<- q'];exact hocd)
theorem a3k{M:Model}{A:Around}{E:Value->Shared->Prop}{i:Nat}{x:Str}{v:V}{u:Value}{Q:Unit->Shared->Prop}(I:Inv X pins σ H s)(hN:X.N.Nodup)(hi:X.N[i]?=some x)(hx:Loc X.env.scope x)(r:RelV v u)
  (h:∀ s',Inv X pins (σ.set i (some v)) H s'->Q () s') (hf:X.fn x=true\/X.env.scope.names.lookup x=some .local:=by trivial):wpAny M A (storeName X.env x u) Q E s :=
 a1d I hN hi hx r (fun s' I' _=>h s' I') hf
theorem Inv.call'{s':Shared}{ch:List Addr}(I:Inv X pins σ H s)(ho:s'.os=s.os)(u:Un (frs X.stack) ch H H' s.heap s'.heap)(hok:HOk X.prog X.w H' s'.heap)(hg:AllBare s'.gens)
  (hch:∀ b ∈ ch,(b ∈ X.ex\/X.s₀.heap.objs.size <= b)/\b ≠ X.env.locals/\(∀ x c,X.env.cells.lookup x=some c->c ≠ b)/\∀ p ∈ X.pn ++ pins,p.1 ≠ b):Inv X pins σ H' s':=by
 obtain ⟨h',g',d',t',o'⟩:=s';have e:o'=s.os:=ho;subst e;exact I.call (g':=g') (t':=t') (d':=d') u hok hg hch
end
abbrev XK:=Value->Option Addr->Hp->Prop
abbrev St:=List (Option V)
abbrev VK:=V->Hp->Prop
abbrev TE:=St->Hp->VK->Prop
abbrev TT:=St->Hp->(Bool->Hp->Prop)->Prop
abbrev TA:=St->Hp->(List V->Hp->Prop)->Prop
structure a0O where
 nx:St->Hp->Prop
 rt:VK
 bk:St->Hp->Prop:=fun _ _=>False
 ct:St->Hp->Prop:=fun _ _=>False
abbrev TS:=a0O->St->Hp->Prop
def EP(X:Cx)(pins:List (Addr×Obj))(σ:St)(Q:VK)(u:Value)(s':Shared):Prop:=∃ v H',Inv X pins σ H' s'/\RelV v u/\Q v H'
def TP(X:Cx)(pins:List (Addr×Obj))(σ:St)(Q:Bool->Hp->Prop)(b:Bool)(s':Shared):Prop:=∃ H',Inv X pins σ H' s'/\Q b H'
def AP(X:Cx)(pins:List (Addr×Obj))(σ:St)(Q:List V->Hp->Prop)(us:List Value)(s':Shared):Prop:=∃ vs H',Inv X pins σ H' s'/\Vals vs us/\Q vs H'
def SP(X:Cx)(pins:List (Addr×Obj))(D:a0O)(f:Flow)(s':Shared):Prop :=
 match f with
 |.next=>∃ σ' H',Inv X pins σ' H' s'/\D.nx σ' H'
 |.brk=>∃ σ' H',Inv X pins σ' H' s'/\D.bk σ' H'
 |.cont=>∃ σ' H',Inv X pins σ' H' s'/\D.ct σ' H'
 |.ret u=>∃ v σ' H',Inv X pins σ' H' s'/\RelV v u/\D.rt v H'
def PE(X:Cx)(e:Expr)(t:TE):Prop :=
 ∀ (pins:List (Addr×Obj)) (s:Shared) (σ:St) (H:Hp) (Q:VK),Inv X pins σ H s->t σ H Q->wpAny (model X.prog X.w) X.A (eval e X.env) (EP X pins σ Q) X.xe s
def PT(X:Cx)(e:Expr)(t:TT):Prop :=
 ∀ (pins:List (Addr×Obj)) (s:Shared) (σ:St) (H:Hp) (Q:Bool->Hp->Prop),Inv X pins σ H s->t σ H Q->wpAny (model X.prog X.w) X.A (isTrue e X.env (eval e X.env)) (TP X pins σ Q) X.xe s
def PW(X:Cx)(e:Expr)(t:TT):Prop :=
 ∀ (whole:Sem Value) (pins:List (Addr×Obj)) (s:Shared) (σ:St) (H:Hp) (Q:Bool->Hp->Prop),Inv X pins σ H s->t σ H Q->wpAny (model X.prog X.w) X.A (isTrue e X.env whole) (TP X pins σ Q) X.xe s
theorem PW.pt{X:Cx}{e:Expr}{t:TT}(h:PW X e t):PT X e t:=h _
def PA(X:Cx)(es:List Expr)(t:TA):Prop :=
 ∀ (pos:Pos) (pins:List (Addr×Obj)) (s:Shared) (σ:St) (H:Hp) (Q:List V->Hp->Prop),Inv X pins σ H s->t σ H Q->wpAny (model X.prog X.w) X.A (spliced (backTo pos (starEach es X.env))) (AP X pins σ Q) X.xe s
def PS(X:Cx)(st:Stmt)(t:TS):Prop :=
 ∀ (pins:List (Addr×Obj)) (s:Shared) (σ:St) (H:Hp) (D:a0O),Inv X pins σ H s->t D σ H->wpAny (model X.prog X.w) X.A (exec st X.env) (SP X pins D) X.xe s
def PSs(X:Cx)(st:List Stmt)(t:TS):Prop :=
 ∀ (pins:List (Addr×Obj)) (s:Shared) (σ:St) (H:Hp) (D:a0O),Inv X pins σ H s->t D σ H->wpAny (model X.prog X.w) X.A (execs st X.env) (SP X pins D) X.xe s
theorem thn{α:Type}{t:Sem α}{Q Q':α->Shared->Prop}{M:Model}{A:Around}{E:Value->Shared->Prop}{s:Shared}(h:wpAny M A t Q E s)(hQ:∀ a s,Q a s->Q' a s):wpAny M A t Q' E s:=wpAny_mono h hQ fun _ _ x=>x
end L2
namespace L2
open PySem PySem.Spec PyProof.Rows
section
variable {X:Cx}
def c1D(i:Nat):TE:=fun σ H Q=>∃ v,σ[i]?=some (some v)/\Q v H
def tC(v:V):TE:=fun _ H Q=>Q v H
theorem b8T{i:Nat}{x:Str}{pos:Pos}(hN:X.N[i]?=some x)(hv:Vis X.env.scope x)(hd:(x == ("__debug__":Str))=false:=by decide)(hcd:(x == ("__classdict__":Str))=false:=by decide):PE X (.Name x pos) (c1D i):=by
 intro pins s σ H Q I h;obtain ⟨v,e,h⟩:=h;obtain ⟨m,hn,hl⟩:=I.loc;obtain ⟨u,r,l⟩:=hl i x v hN e hv;have fin:EP X pins σ Q u s:=⟨v,H,I,r,h⟩
 rcases l with ⟨hk,hm⟩ | ⟨hk,c,hc,hcell⟩
 ·exact wpAny_Name (wpAny_loadName_local I.ok.kind hk hn hm fin) hd
 ·rcases hk with hk | hk
  ·exact wpAny_Name (wpAny_loadName_cell I.ok.kind hk hc hcell fin) hd
  ·exact wpAny_Name (wpAny_loadName_free I.ok.kind hk hc hcell fin hcd) hd
theorem b7h{i j pos}:PE X (.Constant (.int i) j pos) (tC (.int i)):=fun _ _ _ H _ I h=>wpAny_Constant_int ⟨.int i,H,I.tok _,⟨_,rfl⟩,h⟩
theorem c0u{b j pos}:PE X (.Constant (.bool b) j pos) (tC (.bl b)):=fun _ _ _ H _ I h=>Constant_bool ⟨.bl b,H,I,rfl,h⟩
theorem b7Y{j pos}:PE X (.Constant .none j pos) (tC .non):=fun _ _ _ H _ I h=>Constant_none ⟨.non,H,I,rfl,h⟩
theorem b6M{x j pos}:PE X (.Constant (.str x) j pos) (tC (.str x)):=fun _ _ _ H _ I h=>Calls.Constant_str ⟨.str x,H,I.tok _,⟨_,rfl⟩,h⟩
def Gl(X:Cx)(x:Str):Prop:=X.env.kindOf x=some .globalImplicit
theorem Z4{E:Value->Shared->Prop}{pins:List (Addr×Obj)}{s:Shared}{σ:St}{H:Hp}{x:Str}{u:Value}{pos:Pos}{Q:Value->Shared->Prop}(I:Inv X pins σ H s)(hg:Gl X x)(hm:X.mg x=some u)(h:Q u s)
  (hd:(x == ("__debug__":Str))=false:=by decide):wpAny (model X.prog X.w) X.A (eval (.Name x pos) X.env) Q E s :=
 Calls.Name_function_global I.ok.kind hg (Calls.loadGlobal_global (by rw [I.ok.glob];exact I.mod.glob.keeps I.bk) hm h) hd
theorem a0l{E:Value->Shared->Prop}{pins:List (Addr×Obj)}{s:Shared}{σ:St}{H:Hp}{x:Str}{u:Value}{pos:Pos}{Q:Value->Shared->Prop}(I:Inv X pins σ H s)(hg:Gl X x)(hm:X.mg x=none)(hv:bootBuiltins x=some u)(h:Q u s)
  (hn:x ≠ "__name__":=by decide) (hd:(x == ("__debug__":Str))=false:=by decide):wpAny (model X.prog X.w) X.A (eval (.Name x pos) X.env) Q E s:=by
 obtain ⟨mb,h1,h2⟩:=I.mod.blt;exact Calls.Name_function_global I.ok.kind hg (Calls.loadGlobal_builtin (by rw [I.ok.glob];exact I.mod.glob.keeps I.bk) hm (by rw [I.ok.blt];exact h1.keeps I.bk) ((h2 x hn).trans hv) h) hd
variable {a b:Expr} {ta tb:TE} {pos:Pos}
variable {tA tB':TT} {rest:List Expr}
def c1O(t u:TT):TT:=fun σ H Q=>t σ H fun c H1=>if c=true then u σ H1 Q else Q false H1
def tOr(t u:TT):TT:=fun σ H Q=>t σ H fun c H1=>if c=true then Q true H1 else u σ H1 Q
def c1Y(t:TT):TT:=fun σ H Q=>t σ H fun c H1=>Q (!c) H1
theorem b4g(ha:PT X a tA):PW X (.BoolOp .And [a] pos) tA:=by
 intro wh pins s σ H Q I h;refine isTrue_and (thn (ha pins s σ H Q I h) fun c s1 e=>?_)
 cases c with
 |true=>exact isTrue_and_nil e
 |false=>exact e
theorem b7a(ha:PT X a tA):PW X (.BoolOp .Or [a] pos) tA:=by
 intro wh pins s σ H Q I h;refine isTrue_or (thn (ha pins s σ H Q I h) fun c s1 e=>?_)
 cases c with
 |false=>exact isTrue_or_nil e
 |true=>exact e
theorem b8v(ha:PT X a tA)(hb:PW X (.BoolOp .And (b :: rest) pos) tB'):PW X (.BoolOp .And (a :: b :: rest) pos) (c1O tA tB'):=by
 intro wh pins s σ H Q I h;refine isTrue_and (thn (ha pins s σ H _ I h) fun c s1 zz0=>?_);obtain ⟨H1,I1,q1⟩:=zz0
 cases c with
 |true=>exact hb wh pins s1 σ H1 Q I1 q1
 |false=>exact ⟨H1,I1,q1⟩
theorem c0R(ha:PT X a tA)(hb:PW X (.BoolOp .Or (b :: rest) pos) tB'):PW X (.BoolOp .Or (a :: b :: rest) pos) (tOr tA tB'):=by
 intro wh pins s σ H Q I h;refine isTrue_or (thn (ha pins s σ H _ I h) fun c s1 zz0=>?_);obtain ⟨H1,I1,q1⟩:=zz0
 cases c with
 |true=>exact ⟨H1,I1,q1⟩
 |false=>exact hb wh pins s1 σ H1 Q I1 q1
theorem b6v(ha:PT X a tA):PT X (.UnaryOp .Not a pos) (c1Y tA):=by
 intro pins s σ H Q I h;exact isTrue_not (ha pins s σ H (fun c H1=>Q (!c) H1) I h)
def b9C(ta tb:TE):TE:=fun σ H Q=>ta σ H fun x H1=>∃ c,x = .bl c/\if c=true then tb σ H1 Q else Q (.bl false) H1
theorem b5s{op}{t:TE}(h:PE X a t):PE X (.BoolOp op [a] pos) t:=fun pins s σ H Q I hw=>BoolOp_one (h pins s σ H Q I hw)
theorem b8S(ha:PE X a ta)(hb:PE X (.BoolOp .And (b :: rest) pos) tb):PE X (.BoolOp .And (a :: b :: rest) pos) (b9C ta tb):=by
 intro pins s σ H Q I h;refine BoolOp_and (thn (ha pins s σ H _ I h) fun v s1 zz0=>?_);obtain ⟨x,H1,I1,r1,q1⟩:=zz0;obtain ⟨c,rfl,q1⟩:=q1;cases r1;refine wpAny_truthy_bool ?_
 cases c with
 |true=>exact hb pins s1 σ H1 Q I1 q1
 |false=>exact ⟨.bl false,H1,I1,rfl,q1⟩
def tIf(t:TT)(ta tb:TE):TE:=fun σ H Q=>t σ H fun c H1=>if c=true then ta σ H1 Q else tb σ H1 Q
theorem a8O{c:Expr}(hc:PT X c tA)(ha:PE X a ta)(hb:PE X b tb):PE X (.IfExp c a b pos) (tIf tA ta tb):=by
 intro pins s σ H Q I h;refine wpAny_IfExp (thn (hc pins s σ H _ I h) fun d s1 zz0=>?_);obtain ⟨H1,I1,q1⟩:=zz0
 cases d with
 |true=>exact ha pins s1 σ H1 Q I1 q1
 |false=>exact hb pins s1 σ H1 Q I1 q1
end
end L2
namespace L2
open PySem PySem.Spec PyProof.Rows
def SqL(K:PySem.W.Frag)(H:Hp)(a:Addr)(xs:List V):Prop :=
 Rd H a (.lst xs) \/
  ∃ (o:Obj) (its:Array Value) (n:Nat),K.lookup a=some o/\o.cls = .type "list"/\o.dict=none/\o.data = .seq its n/\its.size <= sizeLine/\Vals xs its.toList
def SqT(K:PySem.W.Frag)(H:Hp)(a:Addr)(xs:List V):Prop :=
 Rd H a (.tup xs) \/
  ∃ (o:Obj) (its:Array Value) (n:Nat),K.lookup a=some o/\o.cls = .type "tuple"/\o.data = .seq its n/\its.size <= sizeLine/\Vals xs its.toList
def c2d:Value->Option V
 |.none=>some .non
 |.bool b=>some (.bl b)
 |.int i _=>some (.int i)
 |.str x _=>some (.str x)
 |.bytes b _=>some (.byt b)
 |.float b _=>some (.flt b)
 |.ref a=>some (.ref a)
 |.type n=>some (.ty n)
 |_=>none
theorem RelV.abs{x:V}{u:Value}(r:RelV x u):c2d u=some x:=by
 cases x with
 |non=>cases r;rfl
 |bl _=>cases r;rfl
 |int _=>obtain ⟨t,rfl⟩:=r;rfl
 |str _=>obtain ⟨t,rfl⟩:=r;rfl
 |byt _=>obtain ⟨t,rfl⟩:=r;rfl
 |flt _=>obtain ⟨t,rfl⟩:=r;rfl
 |ref _=>cases r;rfl
 |ty _=>cases r;rfl
theorem RelV.inj{x y:V}{u:Value}(r:RelV x u)(q:RelV y u):x=y:=Option.some.inj (r.abs.symm.trans q.abs)
theorem Vals.inj{xs ys:List V}{us:List Value}(h:Vals xs us)(h':Vals ys us):xs=ys:=by
 induction h generalizing ys with
 |nil=>cases h';rfl
 |cons r _ ih =>
  cases h' with
  |cons r' t'=>rw [r.inj r',ih t']
section
variable {X:Cx} {pins:List (Addr×Obj)} {σ:St} {H:Hp} {s:Shared} {a:Addr} {xs ys:List V}
theorem SqL.of{K:PySem.W.Frag}(h:H a=some (.lst xs)):SqL K H a xs:=.inl (.inl h)
theorem Inv.list(I:Inv X pins σ H s)(h:SqL X.K H a xs):∃ its:List Value,Vals xs its/\PlainL s.heap a its.toArray/\xs.length <= sizeLine:=by
 rcases h with h | ⟨o,its,n,hk,hc,hd,hs,hz,r⟩
 ·obtain ⟨z,its,n,r,e⟩:=h.ok I.hok;exact ⟨its,r,⟨_,n,e,rfl,rfl,rfl⟩,z⟩
 ·refine ⟨its.toList,r,⟨o,n,I.kIn a o hk,hc,hd,by simpa using hs⟩,?_⟩;have e:=r.length;simp only [Array.length_toList] at e;omega
theorem Inv.tuple(I:Inv X pins σ H s)(h:SqT X.K H a xs):∃ its:List Value,Vals xs its/\IsTup s.heap a its.toArray/\xs.length <= sizeLine:=by
 rcases h with h | ⟨o,its,n,hk,hc,hs,hz,r⟩
 ·obtain ⟨z,its,r,p⟩:=h.ok I.hok;exact ⟨its,r,p,z⟩
 ·refine ⟨its.toList,r,⟨o,I.kIn a o hk,hc,n,by simpa using hs⟩,?_⟩;have e:=r.length;simp only [Array.length_toList] at e;omega
theorem Inv.list_inj(I:Inv X pins σ H s)(h:SqL X.K H a xs)(h':SqL X.K H a ys):xs=ys:=by
 obtain ⟨its,r,⟨o,n,e,_,_,d⟩,_⟩:=I.list h;obtain ⟨its',r',⟨o',n',e',_,_,d'⟩,_⟩:=I.list h';rw [e] at e';cases e'
 rw [d] at d'
 injection d' with d1 _
 have:its=its':=by simpa using congrArg Array.toList d1
 subst this;exact r.inj r'
theorem Inv.tuple_inj(I:Inv X pins σ H s)(h:SqT X.K H a xs)(h':SqT X.K H a ys):xs=ys:=by
 obtain ⟨its,r,⟨o,e,_,n,d⟩,_⟩:=I.tuple h;obtain ⟨its',r',⟨o',e',_,n',d'⟩,_⟩:=I.tuple h';rw [e] at e';cases e'
 rw [d] at d'
 injection d' with d1 _
 have:its=its':=by simpa using congrArg Array.toList d1
 subst this;exact r.inj r'
end
abbrev Cx.wish(X:Cx)(E:Value->Shared->Prop):Cx:={ X with xe:=E }
abbrev Cx.nox(X:Cx):Cx:=X.wish fun _ _=>False
theorem Cx.Ok.wish{X:Cx}(ok:X.Ok)(E:Value->Shared->Prop):(X.wish E).Ok :=
 ⟨ok.mod,ok.kind,ok.glob,ok.blt,ok.above,ok.inj,ok.has,ok.cab,ok.hd,ok.frames,ok.stk,ok.exf,ok.bs,ok.bsz,ok.noex,ok.exfs,ok.funs,ok.frf⟩
theorem Cx.Ok.unwish{X:Cx}{E:Value->Shared->Prop}(ok:(X.wish E).Ok):X.Ok :=
 ⟨ok.mod,ok.kind,ok.glob,ok.blt,ok.above,ok.inj,ok.has,ok.cab,ok.hd,ok.frames,ok.stk,ok.exf,ok.bs,ok.bsz,ok.noex,ok.exfs,ok.funs,ok.frf⟩
section
variable {X:Cx} {pins:List (Addr×Obj)} {σ:St} {H:Hp} {s:Shared} {E:Value->Shared->Prop}
theorem Inv.wish(I:Inv X pins σ H s)(E:Value->Shared->Prop):Inv (X.wish E) pins σ H s:=⟨I.ok.wish E,I.os,I.bare,I.base,I.loc,I.cell,I.free,I.freeC,I.pin,I.hok,I.len⟩
theorem Inv.unwish(I:Inv (X.wish E) pins σ H s):Inv X pins σ H s:=⟨I.ok.unwish,I.os,I.bare,I.base,I.loc,I.cell,I.free,I.freeC,I.pin,I.hok,I.len⟩
theorem SP.unwish{D:a0O}{f:Flow}{s':Shared}(h:SP (X.wish E) pins D f s'):SP X pins D f s':=by
 cases f with
 |next=>obtain ⟨σ',H',I,q⟩:=h;exact ⟨σ',H',I.unwish,q⟩
 |brk=>obtain ⟨σ',H',I,q⟩:=h;exact ⟨σ',H',I.unwish,q⟩
 |cont=>obtain ⟨σ',H',I,q⟩:=h;exact ⟨σ',H',I.unwish,q⟩
 |ret u=>obtain ⟨v,σ',H',I,r,q⟩:=h;exact ⟨v,σ',H',I.unwish,r,q⟩
theorem PSs.nox{st:List Stmt}{t:TS}(h:PSs X.nox st t):PSs X st t:=fun pins s σ H D I hw =>
 wpAny_mono (h pins s σ H D (I.wish _) hw) (fun _ _ q=>q.unwish) fun _ _ z=>False.elim z
end
section
variable {X:Cx} {st:Stmt} {rest:List Stmt} {t u:TS} {e:Expr} {te:TE} {pos:Pos}
def b9H:TS:=fun D σ H=>D.nx σ H
def b9W(t u:TS):TS:=fun D σ H=>t { D with nx:=u D } σ H
theorem b2R:PSs X [] b9H:=fun _ _ σ H _ I h=>wpAny_execs_nil ⟨σ,H,I,h⟩
theorem a9D(h1:PS X st t)(h2:PSs X rest u):PSs X (st :: rest) (b9W t u):=by
 intro pins s σ H D I h;refine wpAny_execs_cons (thn (h1 pins s σ H { D with nx:=u D } I h) fun f s1 q=>?_)
 cases f with
 |next =>
  obtain ⟨σ',H',I',q⟩:=q;exact h2 pins s1 σ' H' D I' q
 |ret v=>exact q
 |brk=>exact q
 |cont=>exact q
theorem b1W(h1:PS X st t):PSs X [st] t:=by
 intro pins s σ H D I h;refine wpAny_execs_cons (thn (h1 pins s σ H D I h) fun f s1 q=>?_)
 cases f with
 |next=>exact wpAny_execs_nil q
 |ret v=>exact q
 |brk=>exact q
 |cont=>exact q
theorem Inv.quiet{pins:List (Addr×Obj)}{σ:St}{H:Hp}{s:Shared}(I:Inv X pins σ H s):interactive X.env=false:=by simp [interactive,I.ok.kind]
def c0G(te:TE):TS:=fun D σ H=>te σ H fun _ H1=>D.nx σ H1
theorem b3b(he:PE X e te)(hs:swapsWith e none pos.line X.env=pure false:=by rfl):PS X (.Expr e pos) (c0G te):=by
 intro pins s σ H D I h;exact wpAny_Expr_any (thn (he pins s σ H _ I h) fun v s1 ⟨x,H1,I1,r1,q1⟩=>⟨σ,H1,I1,q1⟩) I.quiet hs
def c1S(te:TE):TS:=fun D σ H=>te σ H D.rt
theorem b5U(he:PE X e te):PS X (.Return (some e) pos) (c1S te):=by
 intro pins s σ H D I h;exact wpAny_Return_some (thn (he pins s σ H _ I h) fun v s1 ⟨x,H1,I1,r1,q1⟩=>⟨x,σ,H1,I1,r1,q1⟩)
def c2n(c:TT)(t u:TS):TS:=fun D σ H=>c σ H fun b H1=>if b=true then t D σ H1 else u D σ H1
theorem b9s{c:Expr}{a b:List Stmt}{tc:TT}(hc:PT X c tc)(ha:PSs X a t)(hb:PSs X b u):PS X (.If c a b pos) (c2n tc t u):=by
 intro pins s σ H D I h;refine wpAny_If (thn (hc pins s σ H _ I h) fun d s1 zz0=>?_);obtain ⟨H1,I1,q1⟩:=zz0
 cases d with
 |true=>exact ha pins s1 σ H1 D I1 q1
 |false=>exact hb pins s1 σ H1 D I1 q1
def b7i:TS:=fun _ _ _=>False
theorem b0o:PS X st b7i:=fun _ _ _ _ _ _ h=>h.elim
end
abbrev TG:=V->St->Hp->(St->Hp->Prop)->Prop
abbrev TGs:=List V->St->Hp->(St->Hp->Prop)->Prop
def PG(X:Cx)(target:Expr)(t:TG):Prop :=
 ∀ (pins:List (Addr×Obj)) (s:Shared) (σ:St) (H:Hp) (v:V) (u:Value) (Q:St->Hp->Prop),Inv X pins σ H s->RelV v u->t v σ H Q ->
  wpAny (model X.prog X.w) X.A (assign target X.env u) (fun _ s'=>∃ σ' H',Inv X pins σ' H' s'/\Q σ' H') X.xe s
def PGs(X:Cx)(ts:List Expr)(t:TGs):Prop :=
 ∀ (pins:List (Addr×Obj)) (s:Shared) (σ:St) (H:Hp) (vs:List V) (us:List Value) (Q:St->Hp->Prop),Inv X pins σ H s->Vals vs us->t vs σ H Q ->
  wpAny (model X.prog X.w) X.A (assignInOrder ((assignEach ts X.env).map (·.2)) us) (fun _ s'=>∃ σ' H',Inv X pins σ' H' s'/\Q σ' H') X.xe s
abbrev b5x:=V->V->V->Hp->(Hp->Prop)->Prop
def b9Z(X:Cx)(t:b5x):Prop :=
 ∀ (pins:List (Addr×Obj)) (s:Shared) (σ:St) (H:Hp) (o i v:V) (ov iv u:Value) (Q:Hp->Prop),Inv X pins σ H s->RelV o ov->RelV i iv->RelV v u->t o i v H Q ->
  wpAny (model X.prog X.w) X.A (setItem ov iv u) (fun _ s'=>∃ H',Inv X pins σ H' s'/\Q H') X.xe s
section
variable {X:Cx} {pos:Pos}
def a2K(i:Nat):TG:=fun v σ H Q=>Q (σ.set i (some v)) H
theorem b2o{i:Nat}{x:Str}(hN:X.N.Nodup)(hi:X.N[i]?=some x)(hx:Loc X.env.scope x)(hf:X.fn x=true\/X.env.scope.names.lookup x=some .local:=by trivial):PG X (.Name x pos) (a2K i):=by
 intro pins s σ H v u Q I r h;exact wpAny_assign_Name (a3k I hN hi hx r (fun s' I'=>⟨_,H,I',h⟩) hf)
def c1X:TGs:=fun vs σ H Q=>vs=[]/\Q σ H
def c0A(t:TG)(u:TGs):TGs:=fun vs σ H Q=>∃ v r,vs=v :: r/\t v σ H fun σ' H'=>u r σ' H' Q
theorem b2H:PGs X [] c1X:=by
 intro pins s σ H vs us Q I r h;obtain ⟨e,h⟩:=h;subst e;cases r;exact assignInOrder_nil ⟨σ,H,I,h⟩
theorem b0k{e:Expr}{es:List Expr}{t:TG}{u:TGs}(h1:PG X e t)(h2:PGs X es u)
  (hs:(assignEach (e :: es) X.env).map (·.2)=assign e X.env :: (assignEach es X.env).map (·.2):=by rfl):PGs X (e :: es) (c0A t u):=by
 intro pins s σ H vs us Q I r h;obtain ⟨v,vr,e1,h⟩:=h;subst e1
 cases r with
 |cons r rr =>
  rw [hs];refine assignInOrder_cons (thn (h1 pins s σ H _ _ _ I r h) fun _ s1 zz0=>?_);obtain ⟨σ1,H1,I1,q1⟩:=zz0;exact h2 pins s1 σ1 H1 _ _ Q I1 rr q1
def c2g(K:PySem.W.Frag)(n:Nat)(t:TGs):TG:=fun v σ H Q=>∃ a xs,v = .ref a/\SqT K H a xs/\xs.length=n/\t xs σ H Q
theorem b6R{es:List Expr}{k:Nat}{t:TGs}{n:Nat}(hc:X.calm=true)(h:PGs X es t)
  (hn:(assignEach es X.env).length=n:=by rfl) (hst:(assignEach es X.env).findIdx? (·.1)=none:=by rfl):PG X (.Tuple es k pos) (c2g X.K n t):=by
 intro pins s σ H v u Q I r hw;obtain ⟨a,xs,e1,hq,hl,hw⟩:=hw;subst e1;cases r;obtain ⟨its,rv,ht,hz⟩:=I.tuple hq;refine assign_Tuple_tuple (I.ok.hd hc) ht (by simp [hn,<- hl,rv.length]) hst fun h' hx=>?_;have I1:Inv X pins σ H { s with heap:=h' }:=I.kept (t':=s.toks) fun b o e=>hx b o (Nat.ne_of_lt (Heap.lt_size e)) e;exact h pins _ σ H xs _ Q I1 (by simpa using rv) hw
def c1z(to ti:TE)(t:b5x):TG:=fun v σ H Q=>to σ H fun o H1=>ti σ H1 fun i H2=>t o i v H2 fun H3=>Q σ H3
theorem b8u{o i:Expr}{to ti:TE}{t:b5x}(ho:PE X o to)(hi:PE X i ti)(hs:b9Z X t)
  (ha:∀ v,assign (.Subscript o i pos) X.env v=(do
   let ov <- holding [v] (eval o X.env)
   let iv <- holding [v,ov] (eval i X.env)
   standAt pos
   holding [v,ov,iv] (setItem ov iv v)
   release [v,ov,iv] []):=by intro _;rfl):PG X (.Subscript o i pos) (c1z to ti t):=by
 intro pins s σ H v u Q I r h;rw [ha];refine wpAny_bind (wpAny_holding (thn (ho pins s σ H _ I h) fun ov s1 zz0=>?_));obtain ⟨x,H1,I1,r1,q1⟩:=zz0;refine wpAny_bind (wpAny_holding (thn (hi pins s1 σ H1 _ I1 q1) fun iv s2 zz0=>?_));obtain ⟨y,H2,I2,r2,q2⟩:=zz0;refine wpAny_bind (wpAny_standAt (wpAny_bind (wpAny_holding (thn (hs pins s2 σ H2 x y v ov iv u _ I2 r1 r2 r q2) fun _ s3 zz0=>?_))));obtain ⟨H3,I3,q3⟩:=zz0;exact wpAny_release ⟨σ,H3,I3,q3⟩
def a7D(te:TE)(g:TG):TS:=fun D σ H=>te σ H fun x H1=>g x σ H1 D.nx
theorem b8P{tg e:Expr}{te:TE}{g:TG}(he:PE X e te)(hg:PG X tg g)(hs:swapsWithSole [tg] e pos.line X.env=pure false:=by rfl)(hw:swappedStores [tg] e X.env=pure none:=by rfl)
  (h1:(assignEach [tg] X.env).map (·.2)=[assign tg X.env]:=by rfl):PS X (.Assign [tg] e pos) (a7D te g):=by
 intro pins s σ H D I h;refine wpAny_Assign_stores (thn (he pins s σ H _ I h) fun v s1 ⟨x,H1,I1,r1,q1⟩=>?_) hs hw;rw [h1];exact thn (hg pins s1 σ H1 x v _ I1 r1 q1) fun _ s2 q=>q
theorem b7p{i:Nat}{x:Str}{e:Expr}{te:TE}{pos':Pos}(hN:X.N.Nodup)(hi:X.N[i]?=some x)(hx:Loc X.env.scope x)(he:PE X e te)(hs:swapsWith e (some (.Name x pos')) pos.line X.env=pure false:=by rfl)(hf:X.fn x=true\/X.env.scope.names.lookup x=some .local:=by trivial) :
  PS X (.Assign [.Name x pos'] e pos) (a7D te (a2K i)):=by
 intro pins s σ H D I h;refine wpAny_Assign_Name (thn (he pins s σ H _ I h) fun v s1 zz0=>?_) hs;obtain ⟨y,H1,I1,r1,q1⟩:=zz0;exact a3k I1 hN hi hx r1 (fun s2 I2=>⟨_,H1,I2,q1⟩) hf
end
section
variable {X:Cx} {pos:Pos}
def b5Q(c:TT)(tb:TS):TS:=fun D σ H=>∃ W:Nat->St->Hp->Prop,(∃ m,W m σ H)/\∀ m σ H,W m σ H ->
 c σ H fun b H1=>if b=true then ∃ N:St->Hp->Prop,(∀ σ' H',N σ' H'->∃ m',m' < m/\W m' σ' H')/\tb { D with nx:=N,ct:=N,bk:=D.nx } σ H1 else D.nx σ H1
theorem a7J{c:Expr}{body:List Stmt}{tc:TT}{tb:TS}(hp:PassesOwn (model X.prog X.w) X.A X.env X.xe)(hc:PT X c tc)(hb:PSs X body tb):PS X (.While c body [] pos) (b5Q tc tb):=by
 intro pins s σ H D I h;obtain ⟨W,⟨m0,w0⟩,turn⟩:=h;refine wpAny_While (codeAny_whileLoop (fun n s'=>∃ σ' H',Inv X pins σ' H' s'/\W n σ' H') ?_ m0 ⟨σ,H,I,w0⟩)
 rintro n s1 ⟨σ1,H1,I1,w1⟩
 refine wpAny_passesOwn hp (thn (hc pins s1 σ1 H1 _ I1 (turn n σ1 H1 w1)) fun b s2 zz0=>?_);obtain ⟨H2,I2,q2⟩:=zz0
 cases b with
 |true =>
  obtain ⟨N,hN,q2⟩:=q2;rw [if_pos rfl];refine wpAny_passesOwn hp (thn (hb pins s2 σ1 H2 _ I2 q2) fun f s3 q3=>?_)
  cases f with
  |next =>
   obtain ⟨σ3,H3,I3,n3⟩:=q3;obtain ⟨m',hm,w3⟩:=hN σ3 H3 n3;exact ⟨m',hm,σ3,H3,I3,w3⟩
  |cont =>
   obtain ⟨σ3,H3,I3,n3⟩:=q3;obtain ⟨m',hm,w3⟩:=hN σ3 H3 n3;exact ⟨m',hm,σ3,H3,I3,w3⟩
  |brk=>exact q3
  |ret v=>exact q3
 |false =>
  rw [if_neg Bool.false_ne_true];exact wpAny_execs_nil ⟨σ1,H2,I2,q2⟩
end
structure It where
 go:Nat->Hp->Prop
 yld:Nat->Hp->V->Hp->Prop
 stop:Nat->Hp->Prop
def S6(X:Cx)(pins:List (Addr×Obj))(H:Hp)(b:Addr):Prop :=
 H b=none/\b ≠ X.env.locals/\b ∉ X.fs/\(b ∈ X.ex\/X.s₀.heap.objs.size <= b)/\(∀ x c,X.env.cells.lookup x=some c->c ≠ b)/\∀ p ∈ X.pn ++ pins,p.1 ≠ b
theorem Inv.fpOk{X:Cx}{pins:List (Addr×Obj)}{σ:St}{H H':Hp}{s:Shared}{b:Addr}(I:Inv X pins σ H s)(hb:s.heap.objs.size <= b)(hn:H' b=none):S6 X pins H' b:=by
 refine ⟨hn,Nat.ne_of_gt (Nat.lt_of_lt_of_le I.lt hb),I.nofs hb,.inr (Nat.le_trans I.sz hb),fun x c e z=>?_,fun p hp z=>?_⟩
 ·obtain ⟨v,q⟩:=I.cell x c e;exact absurd (Nat.lt_of_lt_of_le q.lt (by rw [z];exact hb)) (Nat.lt_irrefl _)
 ·exact absurd (Nat.lt_of_lt_of_le (Heap.lt_size (I.pin p hp).1) (by rw [z];exact hb)) (Nat.lt_irrefl _)
structure a3D(P:Program)(w:World)(K:PySem.W.Frag)(tg:Expr)(J:It)(fp:List Addr)(it:Addr)(tn:Nat->Heap->Prop):Prop where
 mem:it ∈ fp
 obj:∀ i h,tn i h->∀ b ∈ fp,∃ o,h.get? b=some o/\∀ v,o.data ≠ .cell v
 keep:∀ i h h',tn i h->(∀ b ∈ fp,∀ o,h.get? b=some o->h'.get? b=some o)->tn i h'
 item:∀ (X:Cx),X.prog=P->X.w=w->X.K=K->X.calm=true->∀ (i:Nat) (pins:List (Addr×Obj)) (s:Shared) (σ:St) (H:Hp) (E:Value->Shared->Prop),Inv X pins σ H s->(∀ b ∈ fp,S6 X pins H b)->tn i s.heap->J.go i H ->
  wpAny (model P w) X.A (pyNext (.ref it)) (fun r s1=>∃ u,r=some u /\
   wpAny (model P w) X.A (letOwnedTupleGo tg (.ref it) u) (fun _ s2=>∃ x H',Inv X pins σ H' s2/\RelV x u/\J.yld i H x H'/\tn (i + 1) s2.heap/\∀ b ∈ fp,H' b=none) E s1) E s
 done:∀ (X:Cx),X.prog=P->X.w=w->X.K=K->X.calm=true->∀ (i:Nat) (pins:List (Addr×Obj)) (s:Shared) (σ:St) (H:Hp) (E:Value->Shared->Prop),Inv X pins σ H s->(∀ b ∈ fp,S6 X pins H b)->tn i s.heap->J.stop i H ->
  wpAny (model P w) X.A (pyNext (.ref it)) (fun r s1=>r=none/\Inv X pins σ H s1) E s
 self:∀ (A:Around) (i:Nat) (s:Shared) (Q:Value->Shared->Prop) (E:Value->Shared->Prop),tn i s.heap->Q (.ref it) s->wpAny (model P w) A (pyIter (.ref it)) Q E s
abbrev TI:=St->Hp->(It->Hp->Prop)->Prop
def PIE(X:Cx)(pins:List (Addr×Obj))(σ:St)(tg:Expr)(R:It->Hp->Prop)(itv:Value)(s2:Shared):Prop :=
 ∃ (it:Addr) (fp:List Addr) (tn:Nat->Heap->Prop) (J:It) (H':Hp),itv = .ref it/\Inv X pins σ H' s2/\a3D X.prog X.w X.K tg J fp it tn/\tn 0 s2.heap/\(∀ b ∈ fp,S6 X pins H' b)/\R J H'
def PI(X:Cx)(tg iter:Expr)(wi:TI):Prop :=
 ∀ (pins:List (Addr×Obj)) (s:Shared) (σ:St) (H:Hp) (R:It->Hp->Prop),Inv X pins σ H s->wi σ H R ->
  wpAny (model X.prog X.w) X.A (eval iter X.env) (fun v s1=>wpAny (model X.prog X.w) X.A (pyIter v) (PIE X pins σ tg R) X.xe s1) X.xe s
theorem a4s{M:Model}{A:Around}{E:Value->Shared->Prop}{s:Shared}{tg:Expr}{it:Addr}{u:Value}{o:Obj}{n:String}{vs:Array Value}{Q:Unit->Shared->Prop}(ho:s.heap.get? it=some o)(hc:o.cls = .type n)(hd:o.data = .fields vs)
  (hn:["enumerate","zip","dict_itemiterator","dict_reverseitemiterator","odict_iterator","itertools.zip_longest","itertools.pairwise"].contains n=false) (hQ:Q () s):wpAny M A (letOwnedTupleGo tg (.ref it) u) Q E s:=by
 unfold letOwnedTupleGo
 cases tg <;> first
  |exact wpAny_pure hQ
  |(cases u <;> first
    |exact wpAny_pure hQ
    |(refine wpAny_bind (wpAny_load ho ?_)
      rw [hc,hd];show wpAny M A (if (["enumerate","zip","dict_itemiterator","dict_reverseitemiterator","odict_iterator","itertools.zip_longest","itertools.pairwise"].contains n && vs[0]? == some (rawInt _))=true then _ else _) Q E s;rw [if_neg (by intro h;rw [hn,Bool.false_and] at h;cases h)];exact wpAny_pure hQ))
def Itl(K:PySem.W.Frag)(a:Addr):It :=
 ⟨fun i H=>∃ xs x,SqL K H a xs/\xs[i]?=some x,fun i H x H'=>H'=H/\∀ xs,SqL K H a xs->xs[i]?=some x,fun i H=>∃ xs,SqL K H a xs/\xs.length <= i⟩
def Itt(K:PySem.W.Frag)(a:Addr):It :=
 ⟨fun i H=>∃ xs x,SqT K H a xs/\xs[i]?=some x,fun i H x H'=>H'=H/\∀ xs,SqT K H a xs->xs[i]?=some x,fun i H=>∃ xs,SqT K H a xs/\xs.length <= i⟩
def Itr(lo:Int)(n:Nat):It:=⟨fun i _=>i < n,fun i H x H'=>H'=H/\x = .int (lo + i),fun i _=>n <= i⟩
theorem a5Z{P:Program}{w:World}{K:PySem.W.Frag}{tg:Expr}(a it:Addr):a3D P w K tg (Itl K a) [it] it (fun i h=>h.IsListIter it a i) where
 mem:=by simp
 obj:=fun i h st b hb=>by
  have e:b=it:=by simpa using hb
  subst e;obtain ⟨o,e,c,d⟩:=st;exact ⟨o,e,fun v z=>by rw [d] at z;cases z⟩
 keep:=fun i h h' st k=>st.at fun o e=>k it (by simp) o e
 item:=by
  intro X hP hw hK hc i pins s σ H E I hf st hg;subst hP hw hK;obtain ⟨xs,x,hq,hx⟩:=hg;obtain ⟨its,rv,p,hz⟩:=I.list hq;obtain ⟨u,hu,ru⟩:=rv.get hx;obtain ⟨f0,f1,f2,f3,f4,f5⟩:=hf it (by simp);refine wpAny_pyNext_list_item st p.isList (x:=u) (by simpa using hu) fun h' st' sb=>?_;have I1:Inv X pins σ H { s with heap:=h' }:=I.turned (t':=s.toks) (fun b o hb e=>(sb.2 b hb).trans e) f0 f1 f3 f4 f5;obtain ⟨o,e,c,d⟩:=id st';exact ⟨u,rfl,a4s (s:={ s with heap:=h' }) e c d (by decide) ⟨x,H,I1,ru,⟨rfl,fun ys hy=>by rw [I.list_inj hy hq];exact hx⟩,st',fun b hb=>(hf b hb).1⟩⟩
 done:=by
  intro X hP hw hK hc i pins s σ H E I hf st hg;subst hP hw hK;obtain ⟨xs,hq,hx⟩:=hg;obtain ⟨its,rv,p,hz⟩:=I.list hq;obtain ⟨f0,f1,f2,f3,f4,f5⟩:=hf it (by simp);have hl:=rv.length;exact wpAny_pyNext_list_end (I.ok.hd hc) st p.isList (by simp;omega) fun h' eb=>⟨rfl,I.turned (t':=s.toks) (fun b o hb e=>eb b o hb e) f0 f1 f3 f4 f5⟩
 self:=fun _ _ _ _ _ st h=>wpAny_pyIter_listiter st h
theorem a3O{P:Program}{w:World}{K:PySem.W.Frag}{tg:Expr}(a it:Addr):a3D P w K tg (Itt K a) [it] it (fun i h=>h.IsTupleIter it a i) where
 mem:=by simp
 obj:=fun i h st b hb=>by
  have e:b=it:=by simpa using hb
  subst e;obtain ⟨o,e,c,d⟩:=st;exact ⟨o,e,fun v z=>by rw [d] at z;cases z⟩
 keep:=fun i h h' st k=>st.at fun o e=>k it (by simp) o e
 item:=by
  intro X hP hw hK hc i pins s σ H E I hf st hg;subst hP hw hK;obtain ⟨xs,x,hq,hx⟩:=hg;obtain ⟨its,rv,p,hz⟩:=I.tuple hq;obtain ⟨u,hu,ru⟩:=rv.get hx;obtain ⟨f0,f1,f2,f3,f4,f5⟩:=hf it (by simp);refine wpAny_pyNext_tuple_item st (show s.heap.IsTuple a its.toArray from p) (x:=u) (by simpa using hu) fun h' st' sb=>?_;have I1:Inv X pins σ H { s with heap:=h' }:=I.turned (t':=s.toks) (fun b o hb e=>(sb.2 b hb).trans e) f0 f1 f3 f4 f5;obtain ⟨o,e,c,d⟩:=id st';exact ⟨u,rfl,a4s (s:={ s with heap:=h' }) e c d (by decide) ⟨x,H,I1,ru,⟨rfl,fun ys hy=>by rw [I.tuple_inj hy hq];exact hx⟩,st',fun b hb=>(hf b hb).1⟩⟩
 done:=by
  intro X hP hw hK hc i pins s σ H E I hf st hg;subst hP hw hK;obtain ⟨xs,hq,hx⟩:=hg;obtain ⟨its,rv,p,hz⟩:=I.tuple hq;obtain ⟨f0,f1,f2,f3,f4,f5⟩:=hf it (by simp);have hl:=rv.length;exact wpAny_pyNext_tuple_end (I.ok.hd hc) st (show s.heap.IsTuple a its.toArray from p) (by simp;omega) fun h' eb=>⟨rfl,I.turned (t':=s.toks) (fun b o hb e=>eb b o hb e) f0 f1 f3 f4 f5⟩
 self:=fun _ _ _ _ _ st h=>wpAny_pyIter_tupleiter st h
theorem a3N{P:Program}{w:World}{K:PySem.W.Frag}{tg:Expr}(it:Addr)(lo:Int)(n:Nat):a3D P w K tg (Itr lo n) [it] it (fun i h=>IsRangeIter h it (lo + (i:Nat) * 1) ((n:Int) - (i:Nat)) 1) where
 mem:=by simp
 obj:=fun i h st b hb=>by
  have e:b=it:=by simpa using hb
  subst e
  exact ⟨_,st,fun v z=>by
   have z':Data.fields _=Data.cell v:=z
   cases z'⟩
 keep:=fun i h h' st k=>k it (by simp) _ st
 item:=by
  intro X hP hw hK hc i pins s σ H E I hf st hg;subst hP hw hK;obtain ⟨f0,f1,f2,f3,f4,f5⟩:=hf it (by simp);have W:=Walks.range (prog:=X.prog) (w:=X.w) (I.ok.hd hc) it lo 1 n;refine W.item i s _ _ hg st fun v h' tk hv st' kk=>?_;obtain ⟨t,rfl⟩:=hv;have I1:Inv X pins σ H { s with heap:=h',toks:=tk }:=I.turned (fun b o hb e=>kk b o (by simpa using hb) e) f0 f1 f3 f4 f5;refine ⟨_,rfl,a4s (s:={ s with heap:=h',toks:=tk }) (n:= "range_iterator") st' rfl rfl (by decide) ⟨.int (lo + i),H,I1,⟨t,?_⟩,⟨rfl,rfl⟩,st',fun b hb=>(hf b hb).1⟩⟩;rw [Int.mul_one]
 done:=by
  intro X hP hw hK hc i pins s σ H E I hf st hg;subst hP hw hK;obtain ⟨f0,f1,f2,f3,f4,f5⟩:=hf it (by simp);exact wpAny_pyNext_range_end (I.ok.hd hc) st (by have:n <= i:=hg;omega) fun h' eb=>⟨rfl,I.turned (t':=s.toks) (fun b o hb e=>eb b o hb e) f0 f1 f3 f4 f5⟩
 self:=fun _ _ _ _ _ st h=>wpAny_pyIter_rangeiter st h
end L2
namespace L2
open PySem PySem.Spec PyProof.Rows
section
variable {X:Cx} {tg:Expr}
theorem a3l{pins:List (Addr×Obj)}{σ:St}{H:Hp}{s:Shared}{R:It->Hp->Prop}{E:Value->Shared->Prop}{lo hi:Int}{t u v:Tok}{tk:Nat}(I:Inv X pins σ H s)(h1:-(2 ^ 62) <= lo)(h2:lo < 2 ^ 62)(h3:-(2 ^ 62) <= hi)(h4:hi < 2 ^ 62)
  (q:R (Itr lo (hi - lo).toNat) H):wpAny (model X.prog X.w) X.A (pyIter (.ref s.heap.objs.size)) (PIE X pins σ tg R) E { s with heap:=s.heap.push { cls:=.type "range",data:=.fields #[.int lo t,.int hi u,.int 1 v] },toks:=tk }:=by
 refine wpAny_pyIter_range (IsRange.new ..) (small_one h1 h2 h3 h4) ?_;have I1:Inv X pins σ H { s with heap:=s.heap.push { cls:=.type "range",data:=.fields #[.int lo t,.int hi u,.int 1 v] },toks:=tk }:=I.kept fun b o e=>Heap.get?_push_of_some _ e
 refine ⟨(s.heap.push { cls:=.type "range",data:=.fields #[.int lo t,.int hi u,.int 1 v] }).objs.size,[(s.heap.push { cls:=.type "range",data:=.fields #[.int lo t,.int hi u,.int 1 v] }).objs.size],_,_,H,rfl,
  I1.kept (t':=tk) fun b o e=>Heap.get?_push_of_some _ e,a3N _ lo (hi - lo).toNat,?_,fun b hb=>?_,q⟩
 ·have e1:lo + ((0:Nat):Int) * 1=lo:=by simp
  have e2:(((hi - lo).toNat:Nat):Int) - ((0:Nat):Int)=Builtin.Range.rangeSize lo hi 1:=by rw [rangeSize_one];split <;> omega
  show IsRangeIter _ _ (lo + ((0:Nat):Int) * 1) ((((hi - lo).toNat:Nat):Int) - ((0:Nat):Int)) 1;rw [e1,e2];exact Heap.get?_push_size _ rfl
 ·have e:b=(s.heap.push { cls:=.type "range",data:=.fields #[.int lo t,.int hi u,.int 1 v] }).objs.size:=by simpa using hb
  subst e;exact I1.fpOk (Nat.le_refl _) (I1.hok.fresh (Nat.le_refl _))
def c0Q(ta:TA):TI:=fun σ H R=>ta σ H fun vs H1=>∃ j:Int,vs=[.int j]/\-(2 ^ 62) <= j/\j < 2 ^ 62/\R (Itr 0 j.toNat) H1
def b9p(ta:TA):TI:=fun σ H R=>ta σ H fun vs H1=>∃ i j:Int,vs=[.int i,.int j]/\(-(2 ^ 62) <= i/\i < 2 ^ 62/\-(2 ^ 62) <= j/\j < 2 ^ 62)/\R (Itr i (j - i).toNat) H1
theorem a6d{a:Expr}{ta:TA}{p pos:Pos}(hg:Gl X "range")(hm:X.mg "range" = none)(ha:PA X [a] ta)(hs:starEach [a] X.env=[(false,eval a X.env)]:=by rfl):PI X tg (.Call (.Name "range" p) [a] [] pos) (c0Q ta):=by
 intro pins s σ H R I h;refine Call_ (a0l I hg hm boot_range (PyProof.Rows.callWith_type1 (thn (ha pos pins s σ H _ I h) fun us s1 ⟨vs,H1,I1,r1,q1⟩=>?_) hs rfl));obtain ⟨j,e,q1,q2,q⟩:=q1;subst e
 cases r1 with
 |cons r rr =>
  cases rr;obtain ⟨t,rfl⟩:=r;exact call_range_1 (a3l I1 (by omega) (by omega) q1 q2 (by simpa using q))
theorem a5O{a b:Expr}{ta:TA}{p pos:Pos}(hg:Gl X "range")(hm:X.mg "range" = none)(ha:PA X [a,b] ta)(hs:starEach [a,b] X.env=[(false,eval a X.env),(false,eval b X.env)]:=by rfl)(hs2:starEach [b] X.env=[(false,eval b X.env)]:=by rfl) :
  PI X tg (.Call (.Name "range" p) [a,b] [] pos) (b9p ta):=by
 intro pins s σ H R I h;refine Call_ (a0l I hg hm boot_range (PyProof.Rows.callWith_type1 (thn (ha pos pins s σ H _ I h) fun us s1 ⟨vs,H1,I1,r1,q1⟩=>?_) (by rw [hs,hs2]) (by rw [hs2];rfl)));obtain ⟨i,j,e,⟨q1,q2,q3,q4⟩,q⟩:=q1;subst e
 cases r1 with
 |cons r rr =>
  cases rr with
  |cons r' rr =>
   cases rr;obtain ⟨t,rfl⟩:=r;obtain ⟨t',rfl⟩:=r';exact call_range_2 (a3l I1 q1 q2 q3 q4 q)
def c1H(wi:TI)(g:TG)(tb:TS):TS:=fun D σ H=>wi σ H fun J H1=>∃ W:Nat->Nat->St->Hp->Prop,(∃ m,W 0 m σ H1)/\∀ i m σ H,W i m σ H ->
 (J.stop i H/\D.nx σ H)\/(J.go i H/\∃ N:St->Hp->Prop,(∀ σ' H',N σ' H'->∃ m',m' < m/\W (i + 1) m' σ' H')/\∀ x H',J.yld i H x H'->g x σ H' fun σ2 H2=>tb { D with nx:=N,ct:=N,bk:=D.nx } σ2 H2)
def V6(fp:List Addr)(h:Heap):List (Addr×Obj):=fp.filterMap fun b=>(h.get? b).map fun o=>(b,o)
theorem K5{fp:List Addr}{h:Heap}{b:Addr}{o:Obj}(hb:b ∈ fp)(e:h.get? b=some o):(b,o) ∈ V6 fp h:=List.mem_filterMap.mpr ⟨b,hb,by rw [e];rfl⟩
theorem a6k{fp:List Addr}{h:Heap}{p:Addr×Obj}(hp:p ∈ V6 fp h):p.1 ∈ fp/\h.get? p.1=some p.2:=by
 obtain ⟨b,hb,e⟩:=List.mem_filterMap.mp hp
 cases q:h.get? b with
 |none=>rw [q] at e;cases e
 |some o =>
  rw [q] at e;have e':(b,o)=p:=Option.some.inj e;subst e';exact ⟨hb,q⟩
theorem Inv.pinned{pins:List (Addr×Obj)}{σ:St}{H:Hp}{s:Shared}{fp:List Addr}(I:Inv X pins σ H s)(hf:∀ b ∈ fp,S6 X pins H b)(ho:∀ b ∈ fp,∃ o,s.heap.get? b=some o/\∀ v,o.data ≠ .cell v):Inv X (pins ++ V6 fp s.heap) σ H s :=
 I.pins_of fun p hp=>(List.mem_append.mp hp).elim (fun z=>I.pin p (List.mem_append_right _ z)) fun z=>by
  obtain ⟨hb,e⟩:=a6k z;obtain ⟨f0,f1,f2,_⟩:=hf p.1 hb;obtain ⟨o,e',d⟩:=ho p.1 hb;rw [e] at e';cases e'
  exact ⟨e,f0,f1,f2,d⟩
theorem Inv.unpinned{pins pl:List (Addr×Obj)}{σ:St}{H:Hp}{s:Shared}(I:Inv X (pins ++ pl) σ H s):Inv X pins σ H s:=I.pins_of fun p hp=>I.pin p (List.mem_append_right _ (List.mem_append_left _ hp))
theorem b5D{iter:Expr}{body:List Stmt}{wi:TI}{g:TG}{tb:TS}{pos:Pos}(hp:PassesOwn (model X.prog X.w) X.A X.env X.xe)(hc:X.calm=true)(hi:PI X tg iter wi)(hg:PG X tg g)(hb:PSs X body tb)
  (hs:∀ x,foldedSetIterable iter X.env x=pure x:=by intro _;rfl):PS X (.For tg iter body [] pos) (c1H wi g tb):=by
 intro pins s σ H D I h;refine wpAny_For (thn (hi pins s σ H _ I h) fun v s1 h1=>thn h1 fun itv s2 h2=>?_) hs;obtain ⟨it,fp,tn,J,H2,e,I2,T,st2,f2,W,⟨m0,w0⟩,turn⟩:=h2;subst e;have stat:∀ {H':Hp},(∀ b ∈ fp,H' b=none)->∀ b ∈ fp,S6 X pins H' b:=fun hn b hb=>⟨hn b hb,(f2 b hb).2⟩
 refine codeAny_forLoop_any (fun n s'=>∃ i σ' H',Inv X pins σ' H' s'/\tn i s'.heap/\(∀ b ∈ fp,H' b=none)/\W i n σ' H') ?_ m0 ⟨0,σ,H2,I2,st2,fun b hb=>(f2 b hb).1,w0⟩
 rintro n s3 ⟨i,σ3,H3,I3,st3,fr3,w3⟩
 rcases turn i n σ3 H3 w3 with ⟨stop,qn⟩ | ⟨go,N,hN,step⟩
 ·refine wpAny_passesOwn hp (thn (T.done X rfl rfl rfl hc i pins s3 σ3 H3 X.xe I3 (stat fr3) st3 stop) fun r s4 zz0=>?_);obtain ⟨hr,I4⟩:=zz0;subst hr;exact wpAny_execs_nil ⟨σ3,H3,I4,qn⟩
 ·refine wpAny_passesOwn hp (thn (T.item X rfl rfl rfl hc i pins s3 σ3 H3 X.xe I3 (stat fr3) st3 go) fun r s4 zz0=>?_);obtain ⟨u,hr,h4⟩:=zz0;subst hr;refine wpAny_passesOwn hp (thn h4 fun _ s5 zz0=>?_);obtain ⟨x,H5,I5,r5,y5,st5,fr5⟩:=zz0;have I5':=I5.pinned (stat fr5) (T.obj _ _ st5);refine wpAny_passesOwn hp (thn (hg _ s5 σ3 H5 x u _ I5' r5 (step x H5 y5)) fun _ s6 zz0=>?_);obtain ⟨σ6,H6,I6,q6⟩:=zz0;refine wpAny_passesOwn hp (thn (hb _ s6 σ6 H6 _ I6 q6) fun f s7 q7=>?_)
  have again:∀ {σ7:St} {H7:Hp},Inv X (pins ++ V6 fp s5.heap) σ7 H7 s7->N σ7 H7->∃ m,m < n/\∃ i σ' H',Inv X pins σ' H' s7/\tn i s7.heap/\(∀ b ∈ fp,H' b=none)/\W i m σ' H':=fun {σ7 H7} I7 n7=>by
   obtain ⟨m',hm,w7⟩:=hN σ7 H7 n7;refine ⟨m',hm,i + 1,σ7,H7,I7.unpinned,T.keep _ _ _ st5 fun b hb o e=>(I7.pin (b,o) (List.mem_append_right _ (List.mem_append_right _ (K5 hb e)))).1,fun b hb=>?_,w7⟩;obtain ⟨o,e,d⟩:=T.obj _ _ st5 b hb;exact (I7.pin (b,o) (List.mem_append_right _ (List.mem_append_right _ (K5 hb e)))).2.1
  cases f with
  |next=>obtain ⟨σ7,H7,I7,n7⟩:=q7;exact again I7 n7
  |cont=>obtain ⟨σ7,H7,I7,n7⟩:=q7;exact again I7 n7
  |brk=>obtain ⟨σ7,H7,I7,q7⟩:=q7;exact ⟨σ7,H7,I7.unpinned,q7⟩
  |ret v=>obtain ⟨x7,σ7,H7,I7,r7,q7⟩:=q7;exact ⟨x7,σ7,H7,I7.unpinned,r7,q7⟩
end
end L2
namespace L2
open PySem PySem.Spec PyProof.Rows
abbrev R2:=V->V->Hp->VK->Prop
def OpR(X:Cx)(f:Value->Value->Sem Value)(r:R2):Prop :=
 ∀ (pins:List (Addr×Obj)) (s:Shared) (σ:St) (H:Hp) (x y:V) (v u:Value) (Q:VK),Inv X pins σ H s->RelV x v->RelV y u->r x y H Q ->
  wpAny (model X.prog X.w) X.A (f v u) (EP X pins σ Q) X.xe s
def UnR(X:Cx)(f:Value->Sem Value)(r:V->Hp->VK->Prop):Prop :=
 ∀ (pins:List (Addr×Obj)) (s:Shared) (σ:St) (H:Hp) (x:V) (v:Value) (Q:VK),Inv X pins σ H s->RelV x v->r x H Q ->
  wpAny (model X.prog X.w) X.A (f v) (EP X pins σ Q) X.xe s
def CallR(X:Cx)(f:Value)(r:List V->Hp->VK->Prop):Prop :=
 ∀ (pins:List (Addr×Obj)) (s:Shared) (σ:St) (H:Hp) (xs:List V) (us:List Value) (Q:VK),Inv X pins σ H s->Vals xs us->r xs H Q ->
  wpAny (model X.prog X.w) X.A (call f us) (EP X pins σ Q) X.xe s
def c1w(X:Cx)(r:V->Hp->(Bool->Hp->Prop)->Prop):Prop :=
 ∀ (pins:List (Addr×Obj)) (s:Shared) (σ:St) (H:Hp) (x:V) (v:Value) (Q:Bool->Hp->Prop),Inv X pins σ H s->RelV x v->r x H Q ->
  wpAny (model X.prog X.w) X.A (truthy v) (TP X pins σ Q) X.xe s
def tOp(r:R2)(ta tb:TE):TE:=fun σ H Q=>ta σ H fun x H1=>tb σ H1 fun y H2=>r x y H2 Q
def tUn(r:V->Hp->VK->Prop)(ta:TE):TE:=fun σ H Q=>ta σ H fun x H1=>r x H1 Q
def rI(C:Int->Int->Prop)(g:Int->Int->V):R2:=fun x y H Q=>∃ i j,x = .int i/\y = .int j/\C i j/\Q (g i j) H
def rI0(g:Int->Int->V):R2:=fun x y H Q=>∃ i j,x = .int i/\y = .int j/\Q (g i j) H
def rU(g:Int->V):V->Hp->VK->Prop:=fun x H Q=>∃ i,x = .int i/\Q (g i) H
section
variable {X:Cx} {a b c:Expr} {ta tb tc:TE} {pos:Pos}
theorem b7e(ha:PE X a ta)(hb:PE X b tb){pins:List (Addr×Obj)}{s:Shared}{σ:St}{H:Hp}{R:V->V->Hp->Prop}(I:Inv X pins σ H s)
  (h:ta σ H fun x H1=>tb σ H1 fun y H2=>R x y H2) {Q:Value->Shared->Prop} {f:Value->Value->Sem Value}
  (hf:∀ v u s2 x y H2,Inv X pins σ H2 s2->RelV x v->RelV y u->R x y H2->wpAny (model X.prog X.w) X.A (f v u) Q X.xe s2) :
  wpAny (model X.prog X.w) X.A (eval a X.env) (fun v s₁=>wpAny (model X.prog X.w) X.A (eval b X.env) (fun u s₂=>wpAny (model X.prog X.w) X.A (f v u) Q X.xe s₂) X.xe s₁) X.xe s:=by
 refine thn (ha pins s σ H _ I h) fun v s1 zz0=>?_;obtain ⟨x,H1,I1,r1,q1⟩:=zz0;refine thn (hb pins s1 σ H1 _ I1 q1) fun u s2 zz0=>?_;obtain ⟨y,H2,I2,r2,q2⟩:=zz0;exact hf v u s2 x y H2 I2 r1 r2 q2
theorem c0H{op:Operator}{r:R2}(ho:OpR X (binaryOp op) r)(ha:PE X a ta)(hb:PE X b tb):PE X (.BinOp a op b pos) (tOp r ta tb):=by
 intro pins s σ H Q I h;exact wpAny_BinOp (b7e ha hb I h fun v u s2 x y H2 I2 rx ry q=>ho pins s2 σ H2 x y v u Q I2 rx ry q)
theorem b9r{op:UnaryOp}{r:V->Hp->VK->Prop}(ho:UnR X (unaryOp op) r)(ha:PE X a ta):PE X (.UnaryOp op a pos) (tUn r ta):=by
 intro pins s σ H Q I h;exact UnaryOp_ (thn (ha pins s σ H _ I h) fun v s1 ⟨x,H1,I1,r1,q1⟩=>ho pins s1 σ H1 x v Q I1 r1 q1)
theorem opI{f:Value->Value->Sem Value}{C:Int->Int->Prop}{g:Int->Int->Int}
  (rule:∀ (i j:Int) (t u:Tok) (s:Shared) (Q:Value->Shared->Prop) (E:Value->Shared->Prop),C i j->Q (.int (g i j) s.toks) { s with toks:=s.toks + 1 }->wpAny (model X.prog X.w) X.A (f (.int i t) (.int j u)) Q E s) :
  OpR X f (rI C fun i j=>.int (g i j)):=by
 intro pins s σ H x y v u Q I rx ry h;obtain ⟨i,j,rfl,rfl,hc,q⟩:=h;obtain ⟨t,rfl⟩:=rx;obtain ⟨t',rfl⟩:=ry;exact rule i j t t' s _ _ hc ⟨.int (g i j),H,I.tok _,⟨_,rfl⟩,q⟩
theorem a9n{f:Value->Value->Sem Value}{g:Int->Int->Int}
  (rule:∀ (i j:Int) (t u:Tok) (s:Shared) (Q:Value->Shared->Prop) (E:Value->Shared->Prop),Q (.int (g i j) s.toks) { s with toks:=s.toks + 1 }->wpAny (model X.prog X.w) X.A (f (.int i t) (.int j u)) Q E s) :
  OpR X f (rI0 fun i j=>.int (g i j)):=by
 intro pins s σ H x y v u Q I rx ry h;obtain ⟨i,j,rfl,rfl,q⟩:=h;obtain ⟨t,rfl⟩:=rx;obtain ⟨t',rfl⟩:=ry;exact rule i j t t' s _ _ ⟨.int (g i j),H,I.tok _,⟨_,rfl⟩,q⟩
theorem b7v{f:Value->Value->Sem Value}{g:Int->Int->Bool}
  (rule:∀ (i j:Int) (t u:Tok) (s:Shared) (Q:Value->Shared->Prop) (E:Value->Shared->Prop),Q (.bool (g i j)) s->wpAny (model X.prog X.w) X.A (f (.int i t) (.int j u)) Q E s) :
  OpR X f (rI0 fun i j=>.bl (g i j)):=by
 intro pins s σ H x y v u Q I rx ry h;obtain ⟨i,j,rfl,rfl,q⟩:=h;obtain ⟨t,rfl⟩:=rx;obtain ⟨t',rfl⟩:=ry;exact rule i j t t' s _ _ ⟨.bl (g i j),H,I,rfl,q⟩
def a6n(i j:Int):Prop:=0 <= j/\j <= 1000000/\i.natAbs < 2 ^ 64
theorem a4c(k:Nat):(0:Int) <= 2 ^ k:=by
 rw [two_pow_cast];exact Int.natCast_nonneg _
theorem op_add:OpR X (binaryOp .Add) (rI0 fun i j=>.int (i + j)):=a9n fun _ _ _ _ _ _ _ q=>add_int q
theorem b6w:OpR X (binaryOp .Sub) (rI0 fun i j=>.int (i - j)):=a9n fun _ _ _ _ _ _ _ q=>sub_int q
theorem b6c:OpR X (binaryOp .Mod) (rI (fun _ j=>0 < j) fun i j=>.int (i % j)):=opI fun i j _ _ _ _ _ hc q=>by
 have h1:(0:Int) < j:=hc;exact mod_int' (by omega) (by rw [Int.fmod_eq_emod_of_nonneg i (by omega)];exact q)
theorem b6E:OpR X (binaryOp .Pow) (rI a6n fun i j=>.int (i ^ j.toNat)):=opI fun _ _ _ _ _ _ _ hc q=>pow_int_small hc.1 hc.2.1 hc.2.2 q
theorem b5v:OpR X (binaryOp .LShift) (rI a6n fun i j=>.int (i * 2 ^ j.toNat)):=opI fun _ _ _ _ _ _ _ hc q=>lshift_int_small hc.1 hc.2.1 hc.2.2 q
theorem b7q:OpR X (binaryOp .RShift) (rI (fun _ j=>0 <= j) fun i j=>.int (i / 2 ^ j.toNat)):=opI fun i j _ _ _ _ _ hc q =>
 rshift_int hc (by rw [Int.fdiv_eq_ediv_of_nonneg i (a4c _)];exact q)
theorem b7x:OpR X (binaryOp .BitAnd) (rI0 fun i j=>.int (Builtin.bitAnd i j)):=a9n fun _ _ _ _ _ _ _ q=>and_int q
theorem b9G:OpR X (binaryOp .BitOr) (rI0 fun i j=>.int (Builtin.bitOr i j)):=a9n fun _ _ _ _ _ _ _ q=>or_int q
theorem b1S:OpR X (inplaceOp .Add) (rI0 fun i j=>.int (i + j)):=a9n fun _ _ _ _ _ _ _ q=>iadd_int q
theorem unI{f:Value->Sem Value}{g:Int->Int}
  (rule:∀ (i:Int) (t:Tok) (s:Shared) (Q:Value->Shared->Prop) (E:Value->Shared->Prop),Q (.int (g i) s.toks) { s with toks:=s.toks + 1 }->wpAny (model X.prog X.w) X.A (f (.int i t)) Q E s) :
  UnR X f (rU fun i=>.int (g i)):=by
 intro pins s σ H x v Q I rx h;obtain ⟨i,rfl,q⟩:=h;obtain ⟨t,rfl⟩:=rx;exact rule i t s _ _ ⟨.int (g i),H,I.tok _,⟨_,rfl⟩,q⟩
theorem b7S:UnR X (unaryOp .USub) (rU fun i=>.int (-i)):=unI fun _ _ _ _ _ q=>neg_int q
end
section
variable {X:Cx} {a b c:Expr} {ta tb tc:TE} {pos:Pos}
theorem a7H{pins:List (Addr×Obj)}{σ:St}{H:Hp}{s:Shared}{Q:VK}{k k':Bool}(I:Inv X pins σ H s)(q:Q (.bl k) H)(e:k=k'):EP X pins σ Q (.bool k') s:=by
 subst e;exact ⟨.bl k,H,I,rfl,q⟩
theorem b9O:OpR X (compareOp .Lt) (rI0 fun i j=>.bl (decide (i < j))):=b7v fun _ _ _ _ _ _ _ q=>lt_int q
theorem b9m:OpR X (compareOp .LtE) (rI0 fun i j=>.bl (decide (i <= j))):=b7v fun _ _ _ _ _ _ _ q=>le_int q
theorem c0x:OpR X (compareOp .Gt) (rI0 fun i j=>.bl (decide (j < i))):=b7v fun _ _ _ _ _ _ _ q=>gt_int q
theorem b6J:OpR X (compareOp .Is) (fun x y H Q=>y = .non/\Q (.bl (decide (x = .non))) H):=by
 intro pins s σ H x y v u Q I rx ry h;obtain ⟨rfl,q⟩:=h;cases ry;refine is_none_gen (a7H I q ?_)
 cases x <;> first
  |(cases rx;rfl)
  |(obtain ⟨t,rfl⟩:=rx;rfl)
theorem b2P:OpR X (compareOp .IsNot) (fun x y H Q=>y = .non/\Q (.bl (!decide (x = .non))) H):=by
 intro pins s σ H x y v u Q I rx ry h;obtain ⟨rfl,q⟩:=h;cases ry;refine isnot_none_gen (a7H I q ?_)
 cases x <;> first
  |(cases rx;rfl)
  |(obtain ⟨t,rfl⟩:=rx;rfl)
theorem OpR.or{f:Value->Value->Sem Value}{r r':R2}(h:OpR X f r)(h':OpR X f r'):OpR X f (fun x y H Q=>r x y H Q\/r' x y H Q):=by
 intro pins s σ H x y v u Q I rx ry q
 rcases q with q | q
 ·exact h pins s σ H x y v u Q I rx ry q
 ·exact h' pins s σ H x y v u Q I rx ry q
theorem a8G(b:Expr){op:CmpOp}(h:op ≠ .In:=by decide)(h2:op ≠ .NotIn:=by decide):behindInMarks op b=false:=by
 have e1:(op == CmpOp.In)=false:=by cases op <;> first | rfl | exact absurd rfl h
 have e2:(op == CmpOp.NotIn)=false:=by cases op <;> first | rfl | exact absurd rfl h2
 cases b with
 |Set elts k p =>
  show (k == 0 && (op == .In || op == .NotIn) && elts.all (constantsAlone 8))=false;rw [e1,e2]
  cases k == 0 <;> rfl
 |_=>rfl
theorem b3v{op:CmpOp}{r:R2}(ho:OpR X (compareOp op) r)(ha:PE X a ta)(hb:PE X b tb)(hm:behindInMarks op b=false):PE X (.Compare a [op] [b] pos) (tOp r ta tb):=by
 intro pins s σ H Q I h;exact wpAny_Compare1 (b7e ha hb I h fun v u s2 x y H2 I2 rx ry q=>ho pins s2 σ H2 x y v u Q I2 rx ry q) hm
def b5b(t:TE):TT:=fun σ H Q=>t σ H fun x H'=>∃ k,x = .bl k/\Q k H'
theorem b4x{op:CmpOp}{r:R2}(ho:OpR X (compareOp op) r)(ha:PE X a ta)(hb:PE X b tb)(hm:behindInMarks op b=false):PT X (.Compare a [op] [b] pos) (b5b (tOp r ta tb)):=by
 intro pins s σ H Q I h
 refine wpAny_isTrue_Compare1 (thn (ha pins s σ H _ I h) fun v s1 ⟨x,H1,I1,r1,q1⟩=>thn (hb pins s1 σ H1 _ I1 q1) fun u s2 ⟨y,H2,I2,r2,q2⟩ =>
  thn (ho pins s2 σ H2 x y v u _ I2 r1 r2 q2) fun c s3 ⟨z,H3,I3,r3,k,e,q3⟩=>?_) hm
 subst e;cases r3;exact wpAny_truthy_bool ⟨H3,I3,q3⟩
def a7p(r r':R2)(ta tb tc:TE):TE:=fun σ H Q=>ta σ H fun x H1=>tb σ H1 fun y H2=>r x y H2 fun z H3=>∃ k,z = .bl k /\
 (if k=true then tc σ H3 fun w' H4=>r' y w' H4 Q else Q (.bl false) H3)
theorem a8M{op op':CmpOp}{r r':R2}(ho:OpR X (compareOp op) r)(ho':OpR X (compareOp op') r')(ha:PE X a ta)(hb:PE X b tb)(hc:PE X c tc)
  (hm:lastMarks [op,op'] [b,c]=false:=by with_unfolding_all rfl):PT X (.Compare a [op,op'] [b,c] pos) (b5b (a7p r r' ta tb tc)):=by
 intro pins s σ H Q I h
 refine isTrue_chain (thn (ha pins s σ H _ I h) fun v s1 ⟨x,H1,I1,r1,q1⟩=>test_link (thn (hb pins s1 σ H1 _ I1 q1) fun u s2 ⟨y,H2,I2,r2,q2⟩ =>
  thn (ho pins s2 σ H2 x y v u _ I2 r1 r2 q2) fun d s3 ⟨z,H3,I3,r3,k,e,q3⟩=>?_)) hm
 subst e;cases r3;refine wpAny_truthy_bool ?_
 cases k with
 |false =>
  obtain ⟨k',e',q'⟩:=q3
  cases e'
  exact ite_ff ⟨H3,I3,q'⟩
 |true =>
  refine ite_tt (test_last (thn (hc pins s3 σ H3 _ I3 q3) fun w' s4 ⟨z',H4,I4,r4,q4⟩=>thn (ho' pins s4 σ H4 y z' u w' _ I4 r2 r4 q4) fun d' s5 zz0=>?_));obtain ⟨z2,H5,I5,r5,k2,e2,q5⟩:=zz0;subst e2;cases r5;exact wpAny_truthy_bool ⟨H5,I5,q5⟩
def b8r(K:PySem.W.Frag)(x:V)(H:Hp)(k:Bool):Prop :=
 match x with
 |.non=>k=false
 |.bl b=>k=b
 |.int i=>k=(i != 0)
 |.str y=>y.length <= sizeLine/\k=((y.length:Int) != 0)
 |.byt y=>y.size <= sizeLine/\k=((y.size:Int) != 0)
 |.ref p=>(∃ xs,SqL K H p xs/\k = !xs.isEmpty)\/(∃ xs,SqT K H p xs/\k = !xs.isEmpty)\/∃ kvs,H p=some (.dK kvs)/\k = !kvs.isEmpty
 |_=>False
theorem a3M{κ:Type}{kvs:List (κ×V)}{vs:List (κ×Value)}(r:KV kvs vs):(!vs.isEmpty) = !kvs.isEmpty:=by
 cases r <;> rfl
theorem a0M{xs:List V}{its:List Value}(r:Vals xs its):(!its.toArray.isEmpty) = !xs.isEmpty:=by
 cases r <;> simp
theorem W5:(sizeLine:Nat) < 2 ^ 63:=by rw [sizeLine_eq];decide
theorem b8D:c1w X (fun x H Q=>∃ k,b8r X.K x H k/\Q k H):=by
 intro pins s σ H x v Q I rx h;obtain ⟨k,e,q⟩:=h;have hl:=W5;have hs:sizeLine=16777216:=sizeLine_eq
 cases x with
 |non =>
  cases rx;have e':k=false:=e;subst e';exact truthy_none ⟨H,I,q⟩
 |bl b =>
  cases rx;have e':k=b:=e;subst e';exact wpAny_truthy_bool ⟨H,I,q⟩
 |int i =>
  obtain ⟨t,rfl⟩:=rx;have e':k=(i != 0):=e;subst e';exact PySem.P.truthy_int ⟨H,I,q⟩
 |str y =>
  obtain ⟨t,rfl⟩:=rx;obtain ⟨hy,e'⟩:y.length <= sizeLine/\k=((y.length:Int) != 0):=e;subst e';exact PySem.P.truthy_str (by omega) ⟨H,I.tok _,q⟩
 |byt y =>
  obtain ⟨t,rfl⟩:=rx;obtain ⟨hy,e'⟩:y.size <= sizeLine/\k=((y.size:Int) != 0):=e;subst e';exact PySem.W.truthy_bytes (by omega) ⟨H,I.tok _,q⟩
 |ref p =>
  cases rx;have e':(∃ xs,SqL X.K H p xs/\k = !xs.isEmpty)\/(∃ xs,SqT X.K H p xs/\k = !xs.isEmpty)\/∃ kvs,H p=some (.dK kvs)/\k = !kvs.isEmpty:=e
  rcases e' with ⟨xs,hx,e'⟩ | ⟨xs,hx,e'⟩ | ⟨kvs,hx,e'⟩
  ·subst e';obtain ⟨its,r,pl,hz⟩:=I.list hx;have hlen:=r.length;exact wpAny_truthy_list pl.isList (by simp only [List.size_toArray];omega) ⟨H,I.tok _,by rw [a0M r];exact q⟩
  ·subst e';obtain ⟨its,r,pl,hz⟩:=I.tuple hx;have hlen:=r.length;exact truthy_tuple pl (by simp only [List.size_toArray];omega) ⟨H,I.tok _,by rw [a0M r];exact q⟩
  ·subst e';obtain ⟨hz,hS,vs,r,m⟩:kvs.length <= sizeLine/\(p == sysModules)=false/\∃ vs,KV kvs vs/\s.heap.DictOf (o7 X.prog X.w) p vs:=I.hok p _ hx;have hlen:kvs.length=vs.length:=Paired.length r;exact wpAny_truthy_dict hS m (by omega) ⟨H,I.tok _,by rw [a3M r];exact q⟩
 |_=>exact (show False from e).elim
theorem a7s(ha:PE X a ta)(he:∀ whole,isTrue a X.env whole=(do let v <- whole;standAt a.pos;holding [v] (truthy v))) :
  PT X a (fun σ H Q=>ta σ H fun x H'=>∃ k,b8r X.K x H' k/\Q k H'):=by
 intro pins s σ H Q I h;exact isTrue_plain (thn (ha pins s σ H _ I h) fun v s1 ⟨x,H1,I1,r1,q1⟩=>b8D pins s1 σ H1 x v Q I1 r1 q1) (he _)
theorem op_add_str:OpR X (binaryOp .Add) (fun x y H Q=>∃ i j,x = .str i/\y = .str j/\i.length + j.length <= sizeLine/\Q (.str (i ++ j)) H):=by
 intro pins s σ H x y v u Q I rx ry h;obtain ⟨i,j,rfl,rfl,hz,q⟩:=h;obtain ⟨t,rfl⟩:=rx;obtain ⟨t',rfl⟩:=ry;exact add_str (fun t' tk=>⟨.str (i ++ j),H,I.tok _,⟨_,rfl⟩,q⟩) hz
theorem T7{x:V}{us:List Value}(r:Vals [x] us):∃ u,us=[u]/\RelV x u:=by
 cases r with
 |cons r1 r2=>cases r2;exact ⟨_,rfl,r1⟩
theorem b4D{x y:V}{us:List Value}(r:Vals [x,y] us):∃ u w',us=[u,w']/\RelV x u/\RelV y w':=by
 cases r with
 |cons r1 r2 =>
  cases r2 with
  |cons r3 r4=>cases r4;exact ⟨_,_,rfl,r1,r3⟩
theorem a6y(hc:X.calm=true):CallR X (.builtin "max") (fun xs H Q=>∃ i j,xs=[.int i,.int j]/\Q (.int (if j > i then j else i)) H):=by
 intro pins s σ H xs us Q I r h;obtain ⟨i,j,rfl,q⟩:=h;obtain ⟨u,w',rfl,⟨t,rfl⟩,⟨t',rfl⟩⟩:=b4D r;refine max_two_ints (I.ok.hd hc) fun h' tk k=>⟨_,H,I.kept k,?_,q⟩
 by_cases hj:j > i
 ·rw [if_pos hj,if_pos hj];exact ⟨_,rfl⟩
 ·rw [if_neg hj,if_neg hj];exact ⟨_,rfl⟩
theorem a5S(hc:X.calm=true):CallR X (.builtin "min") (fun xs H Q=>∃ i j,xs=[.int i,.int j]/\Q (.int (if j < i then j else i)) H):=by
 intro pins s σ H xs us Q I r h;obtain ⟨i,j,rfl,q⟩:=h;obtain ⟨u,w',rfl,⟨t,rfl⟩,⟨t',rfl⟩⟩:=b4D r;refine min_two_ints (I.ok.hd hc) fun h' tk k=>⟨_,H,I.kept k,?_,q⟩
 by_cases hj:j < i
 ·rw [if_pos hj,if_pos hj];exact ⟨_,rfl⟩
 ·rw [if_neg hj,if_neg hj];exact ⟨_,rfl⟩
theorem a6o:CallR X (.type "int") (fun xs H Q=>(∃ i,xs=[.int i]/\Q (.int i) H)\/∃ k,xs=[.bl k]/\Q (.int (if k then 1 else 0)) H):=by
 intro pins s σ H xs us Q I r h
 rcases h with ⟨i,rfl,q⟩ | ⟨k,rfl,q⟩
 ·obtain ⟨u,rfl,t,rfl⟩:=T7 r;exact call_int_int ⟨.int i,H,I,⟨_,rfl⟩,q⟩
 ·obtain ⟨u,rfl,r1⟩:=T7 r;cases r1;exact call_int_bool ⟨.int (if k then 1 else 0),H,I.tok _,⟨_,rfl⟩,q⟩
def c1L(K:PySem.W.Frag)(x:V)(H:Hp)(n:Nat):Prop :=
 match x with
 |.str y=>y.length <= sizeLine/\n=y.length
 |.byt y=>y.size <= sizeLine/\n=y.size
 |.ref p=>(∃ xs,SqL K H p xs/\n=xs.length)\/∃ xs,SqT K H p xs/\n=xs.length
 |_=>False
theorem b0h:CallR X (.builtin "len") (fun xs H Q=>∃ x n,xs=[x]/\c1L X.K x H n/\Q (.int n) H):=by
 intro pins s σ H xs us Q I r h;obtain ⟨x,n,rfl,e,q⟩:=h;obtain ⟨u,rfl,rx⟩:=T7 r;have hl:=W5;have hs:sizeLine=16777216:=sizeLine_eq
 cases x with
 |str y =>
  obtain ⟨t,rfl⟩:=rx;obtain ⟨hy,e'⟩:y.length <= sizeLine/\n=y.length:=e;subst e';exact len_str (by omega) ⟨.int _,H,I.tok _,⟨_,rfl⟩,q⟩
 |byt y =>
  obtain ⟨t,rfl⟩:=rx;obtain ⟨hy,e'⟩:y.size <= sizeLine/\n=y.size:=e;subst e';exact PySem.W.len_bytes (by omega) ⟨.int _,H,I.tok _,⟨_,rfl⟩,q⟩
 |ref p =>
  cases rx;have e':(∃ xs,SqL X.K H p xs/\n=xs.length)\/∃ xs,SqT X.K H p xs/\n=xs.length:=e
  rcases e' with ⟨xs,hx,e'⟩ | ⟨xs,hx,e'⟩
  ·subst e';obtain ⟨its,r',pl,hz⟩:=I.list hx;have hlen:=r'.length;exact Calls.call_len_list pl.isList (by simp only [List.size_toArray];omega) ⟨.int xs.length,H,I.tok _,⟨_,by simp only [List.size_toArray];rw [hlen]⟩,q⟩
  ·subst e';obtain ⟨its,r',pl,hz⟩:=I.tuple hx;have hlen:=r'.length;exact len_tuple pl (by simp only [List.size_toArray];omega) ⟨.int xs.length,H,I.tok _,⟨_,by simp only [List.size_toArray];rw [hlen]⟩,q⟩
 |_=>exact (show False from e).elim
end
end L2
namespace L2
open PySem PySem.Spec PyProof.Rows
structure ObjM(h:Heap)(x dx C:Addr)(mA:Str->Option Value):Prop where
 obj:h.get? x=some (PySem.W.instObj C dx)
 ns:h.Ns1 dx mA
 ne:dx ≠ x
theorem a5P{h:Heap}{dx:Addr}{mA:Str->Option Value}(n:h.Ns1 dx mA):∃ od,h.get? dx=some od/\∀ name,PySem.W.lookIn name od=some (mA name):=by
 obtain ⟨o,es,ep,ho,hd,hk,_,hm⟩:=n;refine ⟨o,ho,fun name=>?_⟩;have e:=hm name;unfold nsFind findBy at e;rw [<- Array.find?_toList] at e;unfold PySem.W.lookIn;rw [hd];dsimp only;split
 ·rename_i y q;rw [q] at e;exact congrArg some e
 ·rename_i q;rw [q] at e
  have a:es.toList.any (·.refKey)=false:=by
   rw [List.any_eq_false];intro y hy;obtain ⟨z,t,hkey⟩:=hk y (Array.mem_toList_iff.mp hy)
   simp [DictEntry.refKey,hkey]
  have a':¬ es.toList.any (·.refKey)=true:=by rw [a];exact Bool.false_ne_true
  rw [if_neg a'];exact congrArg some e
theorem ObjM.look{h:Heap}{x dx C:Addr}{mA:Str->Option Value}(I:ObjM h x dx C mA):∃ od,PySem.W.InstAt h x (PySem.W.instObj C dx) C (some od)/\∀ name,PySem.W.lookIn name od=some (mA name) :=
 let ⟨od,ho,hl⟩:=a5P I.ns
 ⟨od,⟨I.obj,rfl,rfl,ho⟩,hl⟩
section
variable {prog:Program} {w:World} {A:Around} {E:Value->Shared->Prop} {s:Shared} {K:PySem.W.Frag} {x dx C f:Addr} {mA:Str->Option Value} {name:Str} {v:Value}
theorem b4o{expr:Bool}{Q:Value->Shared->Prop}(X:K.In s.heap)(I:ObjM s.heap x dx C mA)(hg:PySem.W.plainGet K C name=true)(hh:PySem.W.hasDictIn K C=true)
  (ha:PySem.W.findIn K (.ref C) name=some none) (hv:mA name=some v) (hv':PySem.W.handedIn v=true) (h:Q v { s with toks:=s.toks + 1 }) :
  wpAny (model prog w) A (getAttr (.ref x) name expr) Q E s:=by
 obtain ⟨od,J,hl⟩:=I.look;exact PySem.W.get_value X J (PySem.W.plainGet_of hg).1 (PySem.W.findObj_own hh ha rfl (by rw [hl,hv])) hv' h
theorem a9R{pl:Sem Bool}{Q:Value×List Value->Shared->Prop}(X:K.In s.heap)(I:ObjM s.heap x dx C mA)(hg:PySem.W.plainGet K C name=true)
  (hf:PySem.W.findIn K (.ref C) name=some (some (.ref f))) (ht:PySem.W.isFn K (.ref f)=true) (hv:mA name=none) (h:Q (.ref f,[.ref x]) s) :
  wpAny (model prog w) A (getMethod (.ref x) name pl) Q E s:=by
 obtain ⟨od,J,hl⟩:=I.look;exact PySem.W.method_fn X J (PySem.W.plainGet_of hg).1 (PySem.W.plainGet_of hg).2 hf (beq_iff_eq.mp ht) (by show (PySem.W.lookIn name od).map (·.isSome)=some false;rw [hl,hv];rfl) h
theorem b4r{ns:List Str}{Q:Unit->Shared->Prop}(X:K.In s.heap)(I:ObjM s.heap x dx C mA)
  (hs:PySem.W.findIn K (.ref C) "__setattr__" = some (some (.builtin "object.__setattr__"))) (hp:PySem.W.plainOver K C=true) (ht:PySem.W.takerIn K C name=some none) (hh:PySem.W.hasDictIn K C=true)
  (hw:PySem.Within mA ns) (hsz:ns.length <= sizeLine)
  (h:∀ h',ObjM h' x dx C (fun y=>if y=name then some v else mA y)->Heap.SameBut dx s.heap h'->Q () { s with heap:=h',toks:=s.toks + 2 }) :
  wpAny (model prog w) A (setAttr (.ref x) name v) Q E s:=by
 obtain ⟨od,J,hl⟩:=I.look;refine PySem.W.set_plain X J hs (PySem.W.osa_open (s:={ s with toks:=s.toks + 1 }) (r:=none) X J hp ht fun b=>?_);obtain ⟨cd,hc,hd'⟩:=PySem.W.any_some hh;have hx:s.heap.get? x=some ⟨.ref C,some dx,.plain,#[]⟩:=I.obj;refine wpAny_bind (wpAny_pure (wpAny_bind (wpAny_bind (wpAny_loadPart hx (wpAny_bind (PySem.W.Looks.here (s:={ s with toks:=s.toks + 1 }) (PySem.W.looks_clsIn X hc) ?_))))));rw [hd'];refine wpAny_pure (a:=some dx) (wpAny_bind (wpAny_pure (wpAny_bind ?_)));refine wpAny_nsSet1 (s:={ s with toks:=s.toks + 1 }) I.ns fun h' hn2 hs2=>?_;obtain ⟨oD,esD,epD,hoD,hdD,hcD⟩:=hn2.count (PySem.Within.cons name v hw);refine wpAny_bind (wpAny_lookBehind hoD (by rw [hdD];exact pastItsLine_dict (Nat.le_trans hcD (by rw [List.length_cons];omega))) ?_);exact wpAny_pure (h _ ⟨(hs2.2 _ (Ne.symm I.ne)).trans I.obj,hn2,I.ne⟩ hs2)
theorem a8p{R:Result->Shared->Prop}{vs:List Value}{kw:List (Str×Value)}(X:K.In s.heap)(hm:PySem.W.makesIn K C=true)
  (hi:PySem.W.findIn K (.ref C) "__init__" = some (some (.ref f))) (hf:PySem.W.typeIn K (.ref f)=some (.type "function"))
  (h:codeAny (model prog w) (A.under (.builtin "type.__call__" ⟨.ref C :: vs,kw⟩)) (.call (.ref f) ⟨.ref (s.heap.objs.size + 1) :: vs,kw⟩) (PySem.W.InitBack (s.heap.objs.size + 1) R)
   { s with heap:=(s.heap.push PySem.W.emptyDict).push (PySem.W.instObj C s.heap.objs.size) }) :
  codeAny (model prog w) A (.call (.ref C) ⟨vs,kw⟩) R s:=by
 obtain ⟨hh,g,d,t,os⟩:=s;exact PySem.W.make_core (PySem.W.makes_of X hm) (PySem.W.looks_findIn X hi) (fun self=>PySem.W.bind_fn X self hf) (.inl rfl) h
end
def G1(f:Str)(v:V):List (Str×V)->List (Str×V)
 |[]=>[(f,v)]
 |(g,x) :: r=>if g=f then (g,v) :: r else (g,x) :: G1 f v r
theorem Y3(f g:Str)(v:V):∀ fs:List (Str×V),(G1 f v fs).lookup g=if g=f then some v else fs.lookup g
 |[]=>by
  show List.lookup g [(f,v)]=_
  by_cases h:g=f
  ·have hb:(g == f)=true:=beq_iff_eq.mpr h;simp only [List.lookup,hb,if_pos h]
  ·have hb:(g == f)=false:=beq_eq_false_iff_ne.mpr h;simp only [List.lookup,hb,if_neg h]
 |(k,x) :: r=>by
  have ih:=Y3 f g v r;rw [show G1 f v ((k,x) :: r)=(if k=f then (k,v) :: r else (k,x) :: G1 f v r) from rfl]
  by_cases hk:k=f
  ·rw [if_pos hk]
   by_cases h:g=k
   ·have hb:(g == k)=true:=beq_iff_eq.mpr h;simp only [List.lookup,hb,if_pos (h.trans hk)]
   ·have hb:(g == k)=false:=beq_eq_false_iff_ne.mpr h;simp only [List.lookup,hb,if_neg (fun e:g=f=>h (e.trans hk.symm))]
  ·rw [if_neg hk]
   by_cases h:g=k
   ·have hb:(g == k)=true:=beq_iff_eq.mpr h;simp only [List.lookup,hb,if_neg (fun e:g=f=>hk (h.symm.trans e))]
   ·have hb:(g == k)=false:=beq_eq_false_iff_ne.mpr h;simp only [List.lookup,hb];exact ih
theorem V4(f:Str)(v:V):∀ fs:List (Str×V),f ∈ (G1 f v fs).map (·.1)/\∀ g,g ∈ fs.map (·.1)->g ∈ (G1 f v fs).map (·.1)
 |[]=>⟨by simp [G1],fun g h=>by simp at h⟩
 |(k,x) :: r=>by
  obtain ⟨i1,i2⟩:=V4 f v r;rw [show G1 f v ((k,x) :: r)=(if k=f then (k,v) :: r else (k,x) :: G1 f v r) from rfl]
  by_cases hk:k=f
  ·rw [if_pos hk];subst hk;exact ⟨by simp,fun g h=>by simpa using h⟩
  ·rw [if_neg hk];refine ⟨?_,fun g h=>?_⟩
   ·rw [List.map_cons];exact List.mem_cons_of_mem _ i1
   ·rw [List.map_cons] at h ⊢
    rcases List.mem_cons.mp h with e | e
    ·exact List.mem_cons.mpr (.inl e)
    ·exact List.mem_cons_of_mem _ (i2 g e)
theorem Y4(f:Str)(v:V):∀ fs:List (Str×V),(G1 f v fs).length <= fs.length + 1
 |[]=>by simp [G1]
 |(k,x) :: r=>by
  have ih:=Y4 f v r;rw [show G1 f v ((k,x) :: r)=(if k=f then (k,v) :: r else (k,x) :: G1 f v r) from rfl]
  by_cases hk:k=f
  ·rw [if_pos hk,List.length_cons,List.length_cons];omega
  ·rw [if_neg hk,List.length_cons,List.length_cons];omega
theorem RelO.some_of{v:V}{o:Option Value}(r:RelO (some v) o):∃ u,o=some u/\RelV v u:=by
 cases o with
 |none=>exact (show False from r).elim
 |some u=>exact ⟨u,rfl,r⟩
theorem RelO.none_of{o:Option Value}(r:RelO none o):o=none:=by
 cases o with
 |none=>rfl
 |some u=>exact (show False from r).elim
theorem a6v{v:V}{u:Value}(r:RelV v u):PySem.W.handedIn u=true:=by
 cases v with
 |non=>cases (show u=Value.none from r);rfl
 |bl b=>cases (show u=Value.bool b from r);rfl
 |int i=>obtain ⟨t,e⟩:=(show ∃ t,u=Value.int i t from r);cases e;rfl
 |str x=>obtain ⟨t,e⟩:=(show ∃ t,u=Value.str x t from r);cases e;rfl
 |byt b=>obtain ⟨t,e⟩:=(show ∃ t,u=Value.bytes b t from r);cases e;rfl
 |flt b=>obtain ⟨t,e⟩:=(show ∃ t,u=Value.float b t from r);cases e;rfl
 |ref a=>cases (show u=Value.ref a from r);rfl
 |ty n=>cases (show u=Value.type n from r);rfl
section
variable {P:Program} {w:World} {H H':Hp} {h h':Heap} {a C dx:Addr} {fs fs':List (Str×V)}
theorem a1R(hok:HOk P w H h)(e:H a=some (.ins C dx fs)):∃ mA,ObjM h a dx C mA/\(∀ f,RelO (fs.lookup f) (mA f))/\PySem.Within mA (fs.map (·.1))/\fs.length <= 1000/\H dx=some (.own a):=by
 obtain ⟨d,z,ne,ob,mA,n,r,q⟩:=(show ObjOk P w H h a (.ins C dx fs) from hok a _ e)
 exact ⟨mA,⟨ob,n,ne⟩,r,q,z,d⟩
end
structure Cls(K:PySem.W.Frag)(C:Addr):Prop where
 pg:PySem.W.plainGet K C Str.empty=true
 hd:PySem.W.hasDictIn K C=true
 po:PySem.W.plainOver K C=true
 sa:PySem.W.findIn K (.ref C) "__setattr__" = some (some (.builtin "object.__setattr__"))
theorem Cls.get{K:PySem.W.Frag}{C:Addr}(c:Cls K C)(f:Str):PySem.W.plainGet K C f=true:=c.pg
def NoAttr(K:PySem.W.Frag)(C:Addr)(f:Str):Prop:=PySem.W.findIn K (.ref C) f=some none
theorem NoAttr.taker{K:PySem.W.Frag}{C:Addr}{f:Str}(n:NoAttr K C f):PySem.W.takerIn K C f=some none:=by
 unfold PySem.W.takerIn;rw [show PySem.W.findIn K (.ref C) f=some none from n];rfl
structure a9X(K:PySem.W.Frag)(C:Addr)(m:Str)(f:Addr):Prop where
 at_:PySem.W.findIn K (.ref C) m=some (some (.ref f))
 fn:PySem.W.isFn K (.ref f)=true
 kp:PySem.W.keepIn K (.ref f)=true
section
variable {X:Cx} {pins:List (Addr×Obj)} {σ:St} {H:Hp} {s:Shared} {a C dx:Addr} {fs:List (Str×V)} {f:Str} {v:V} {A:Around} {E:Value->Shared->Prop}
theorem a0B{b:Bool}{Q:Value->Shared->Prop}(I:Inv X pins σ H s)(e:H a=some (.ins C dx fs))(c:Cls X.K C)(n:NoAttr X.K C f)(l:fs.lookup f=some v)
  (h:∀ u s',Inv X pins σ H s'->RelV v u->Q u s'):wpAny (model X.prog X.w) A (getAttr (.ref a) f b) Q E s:=by
 obtain ⟨mA,O,r,_,_,_⟩:=a1R I.hok e;obtain ⟨u,hu,ru⟩:=RelO.some_of (v:=v) (o:=mA f) (by rw [<- l];exact r f);exact b4o I.kIn O (c.get f) c.hd n hu (a6v ru) (h u _ (I.tok _) ru)
theorem Q7{m:Str}{g:Addr}{pl:Sem Bool}{Q:Value×List Value->Shared->Prop}(I:Inv X pins σ H s)(e:H a=some (.ins C dx fs))(c:Cls X.K C)(k:a9X X.K C m g)(l:fs.lookup m=none)
  (h:Q (.ref g,[.ref a]) s):wpAny (model X.prog X.w) A (getMethod (.ref a) m pl) Q E s:=by
 obtain ⟨mA,O,r,_,_,_⟩:=a1R I.hok e;have hn:mA m=none:=RelO.none_of (by rw [<- l];exact r m);exact a9R I.kIn O (c.get m) k.at_ k.fn hn h
theorem a0K{y:V}{u:Value}{Q:Unit->Shared->Prop}(I:Inv X pins σ H s)(e:H a=some (.ins C dx fs))(c:Cls X.K C)(n:NoAttr X.K C f)(hl:fs.length < 1000)(ry:RelV y u)
  (h:∀ s',Inv X pins σ (upd H a (.ins C dx (G1 f y fs))) s'->Q () s'):wpAny (model X.prog X.w) A (setAttr (.ref a) f u) Q E s:=by
 obtain ⟨mA,O,r,wi,_,ho⟩:=a1R I.hok e;have hz:(fs.map (·.1)).length <= sizeLine:=by rw [List.length_map,sizeLine_eq];omega
 refine b4r I.kIn O c.sa c.po n.taker c.hd wi hz fun h' O' sb=>h _ ?_;have hd:∃ o,h'.get? dx=some o:=let ⟨o,_,_,e',_⟩:=O'.ns;⟨o,e'⟩
 refine I.write (x:=a) (e:=dx) (by rw [e];exact True.intro) (.inr ho) (fun b q hb z=>(sb.2 b hb).trans z) hd ?_;refine ⟨by rw [k6 O.ne];exact ho,?_,O.ne,O'.obj,_,O'.ns,fun g=>?_,fun g hg=>?_⟩
 ·have:=Y4 f y fs;omega
 ·show RelO ((G1 f y fs).lookup g) (if g=f then some u else mA g);rw [Y3]
  by_cases q:g=f
  ·rw [if_pos q,if_pos q];exact ry
  ·rw [if_neg q,if_neg q];exact r g
 ·by_cases q:g=f
  ·rw [q];exact (V4 f y fs).1
  ·refine (V4 f y fs).2 g (wi g fun z=>hg ?_);show (if g=f then some u else mA g)=none;rw [if_neg q];exact z
theorem Inv.made(I:Inv X pins σ H s):Inv X pins σ (upd (upd H s.heap.objs.size (.own (s.heap.objs.size + 1))) (s.heap.objs.size + 1) (.ins C s.heap.objs.size []))
  { s with heap:=(s.heap.push PySem.W.emptyDict).push (PySem.W.instObj C s.heap.objs.size) }:=by
 have e1:(s.heap.push PySem.W.emptyDict).get? s.heap.objs.size=some PySem.W.emptyDict:=Heap.get?_push_size s.heap rfl
 have e2:((s.heap.push PySem.W.emptyDict).push (PySem.W.instObj C s.heap.objs.size)).get? (s.heap.objs.size + 1)=some (PySem.W.instObj C s.heap.objs.size):=by
  have:=Heap.get?_push_size (s.heap.push PySem.W.emptyDict) (o:=PySem.W.instObj C s.heap.objs.size) rfl
  rwa [Heap.size_push] at this
 have e3:(s.heap.push PySem.W.emptyDict).Ns s.heap.objs.size (fun _=>none):=⟨PySem.W.emptyDict,#[],_,e1,rfl,(fun e he=>absurd he (by simp)),fun _=>rfl⟩
 have I1:=I.laid (a:=s.heap.objs.size) (o:=.own (s.heap.objs.size + 1)) (h':=s.heap.push PySem.W.emptyDict) (t':=s.toks) (fun b u q=>Heap.get?_push_of_some _ q) (Nat.le_refl _) ⟨_,e1⟩;refine I1.laid (a:=s.heap.objs.size + 1) (o:=.ins C s.heap.objs.size []) (t':=s.toks) (fun b u q=>Heap.get?_push_of_some _ q) (Nat.le_of_eq (Heap.size_push _ _)) ?_;have ne:s.heap.objs.size ≠ s.heap.objs.size + 1:=Nat.ne_of_lt (Nat.lt_succ_self _);refine ⟨by rw [k6 ne,j7],Nat.zero_le _,ne,e2,fun _=>none,(Heap.Ns1.of_empty e3).at fun o q=>Heap.get?_push_of_some _ q,fun _=>True.intro,fun y hy=>absurd rfl hy⟩
theorem b2M{prog:Program}{w:World}{env:Env}{e:Expr}{f:Str}{pos:Pos}{s:Shared}{Q:Value->Shared->Prop}(hb:attributeBase e f env (eval e env)=eval e env)
  (h:wpAny (model prog w) A (eval e env) (fun o s₁=>wpAny (model prog w) A (getAttr o f true) Q E s₁) E s):wpAny (model prog w) A (eval (.Attribute e f pos) env) Q E s :=
 Attribute_any_ h (by rw [arm_eval_Attribute,hb])
end
def c2c(K:PySem.W.Frag)(ta:TE)(f:Str):TE:=fun σ H Q=>ta σ H fun x H1=>∃ a C dx fs v,x = .ref a/\H1 a=some (.ins C dx fs)/\Cls K C/\NoAttr K C f/\fs.lookup f=some v/\Q v H1
def c1B(K:PySem.W.Frag)(ta tv:TE)(f:Str):TS:=fun D σ H=>tv σ H fun y H1=>ta σ H1 fun x H2=>∃ a C dx fs,x = .ref a/\H2 a=some (.ins C dx fs)/\Cls K C/\NoAttr K C f/\fs.length < 1000 /\
 D.nx σ (upd H2 a (.ins C dx (G1 f y fs)))
def c1C(X:Cx)(op:Operator)(rd:V->V->Hp->VK->Prop):Prop :=
 ∀ (pins:List (Addr×Obj)) (s:Shared) (σ:St) (H:Hp) (x y:V) (u v:Value) (Q:VK),Inv X pins σ H s->RelV x u->RelV y v->rd x y H Q->wpAny (model X.prog X.w) X.A (inplaceOp op u v) (EP X pins σ Q) X.xe s
def b3p(K:PySem.W.Frag)(ta tv:TE)(rd:V->V->Hp->VK->Prop)(f:Str):TS:=fun D σ H=>ta σ H fun x H1=>∃ a C dx fs v,x = .ref a/\H1 a=some (.ins C dx fs)/\Cls K C/\NoAttr K C f/\fs.lookup f=some v /\
 tv σ H1 fun y H2=>rd v y H2 fun z H3=>∃ dx' fs',H3 a=some (.ins C dx' fs')/\fs'.length < 1000/\D.nx σ (upd H3 a (.ins C dx' (G1 f z fs')))
section
variable {X:Cx} {o e value:Expr} {f:Str} {pos pos' tpos:Pos} {ta tv:TE}
theorem b8x(he:PE X e ta)(hb:attributeBase e f X.env (eval e X.env)=eval e X.env):PE X (.Attribute e f pos) (c2c X.K ta f):=by
 intro pins s σ H Q I h;refine b2M hb (thn (he pins s σ H _ I h) fun u s1 zz0=>?_);obtain ⟨x,H1,I1,rx,a,C,dx,fs,v,ex,ea,c,n,l,q⟩:=zz0;subst ex
 obtain rfl:u=Value.ref a:=rx
 exact a0B I1 ea c n l fun u' s2 I2 ru=>⟨v,H1,I2,ru,q⟩
theorem b8j(ha:PE X o ta)(hv:PE X value tv)(hs:swapsWith value (some (.Attribute o f pos')) pos.line X.env=pure false):PS X (.Assign [.Attribute o f pos'] value pos) (c1B X.K ta tv f):=by
 intro pins s σ H D I h;refine plainObj_wpAny_Assign_Attribute (thn (hv pins s σ H _ I h) fun u s1 ⟨y,H1,I1,ry,q⟩=>thn (ha pins s1 σ H1 _ I1 q) fun ov s2 zz0=>?_) hs;obtain ⟨x,H2,I2,rx,a,C,dx,fs,ex,ea,c,n,l,q2⟩:=zz0;subst ex
 obtain rfl:ov=Value.ref a:=rx
 exact a0K I2 ea c n l ry fun s3 I3=>⟨σ,_,I3,q2⟩
theorem a6r{op:Operator}{rd:V->V->Hp->VK->Prop}(ha:PE X o ta)(hv:PE X value tv)(hop:c1C X op rd):PS X (.AugAssign (.Attribute o f tpos) op value pos) (b3p X.K ta tv rd f):=by
 intro pins s σ H D I h;refine wpAny_AugAssign_AttributeAny (thn (ha pins s σ H _ I h) fun ov s1 zz0=>?_);obtain ⟨x,H1,I1,rx,a,C,dx,fs,v,ex,ea,c,n,l,q⟩:=zz0;subst ex
 obtain rfl:ov=Value.ref a:=rx
 refine a0B I1 ea c n l fun u s2 I2 ru=>thn (hv pins s2 σ H1 _ I2 q) fun w3 s3 ⟨y,H2,I3,ry,q3⟩=>thn (hop pins s3 σ H2 v y u w3 _ I3 ru ry q3) fun w4 s4 zz0=>?_;obtain ⟨z,H3,I4,rz,dx',fs',ea',l',q4⟩:=zz0;exact a0K I4 ea' c n l' rz fun s5 I5=>⟨σ,_,I5,q4⟩
theorem b4O{pl:Sem Bool}{m:Str}{apos:Pos}{args:List Expr}{pins:List (Addr×Obj)}{s:Shared}{σ:St}{H:Hp}{Q:Value->Shared->Prop}{te:TE}(he:PE X e te)(I:Inv X pins σ H s)
  (h:te σ H fun x H1=>∃ a C dx fs g,x = .ref a/\H1 a=some (.ins C dx fs)/\Cls X.K C/\a9X X.K C m g/\fs.lookup m=none /\
   ∀ s1,Inv X pins σ H1 s1->wpAny (model X.prog X.w) X.A (callWith pos (.ref g) [.ref a] (backTo pos (starEach args X.env)) (backToKw pos (keywordEach [] X.env))) Q X.xe s1)
  (ht:eval (.Call (.Attribute e m apos) args [] pos) X.env=(do
   let ov <- eval e X.env
   standAt apos.atName
   let (f,first) <- holding [ov] (getMethod ov m pl)
   callWith pos f first (backTo pos (starEach args X.env)) (backToKw pos (keywordEach [] X.env)))) :
  wpAny (model X.prog X.w) X.A (eval (.Call (.Attribute e m apos) args [] pos) X.env) Q X.xe s:=by
 refine PySem.W.methodCall_KW (pl:=pl) (thn (he pins s σ H _ I h) fun u s1 ⟨x,H1,I1,rx,a,C,dx,fs,g,ex,ea,c,k,l,q⟩=>?_) ht;subst ex
 obtain rfl:u=Value.ref a:=rx
 exact Q7 I1 ea c k l (q s1 I1)
end
section
variable {X:Cx} {pins:List (Addr×Obj)} {σ:St} {H:Hp} {s:Shared} {A:Around} {E:Value->Shared->Prop} {Q:Value->Shared->Prop} {c:Value} {b:Bool}
end
end L2
namespace L2
open PySem PySem.Spec PyProof.Rows
structure Room(k:Nat)(A:Around):Prop where
 hd:A.handled=none
 dp:A.depth + 3 * k + 5 < recursionLimit
 un:A.units + 16 * k + 200 < cLine
theorem Room.mono{j k:Nat}{A:Around}(r:Room k A)(h:j <= k):Room j A:=⟨r.hd,by have:=r.dp;omega,by have:=r.un;omega⟩
theorem Room.deeper{k:Nat}{A:Around}(r:Room (k + 1) A)(env:Env):Room k (A.deeper env) :=
 ⟨r.hd,by have:=r.dp;show A.depth + 1 + 3 * k + 5 < _;omega,by have:=r.un;show A.units + 3 + 16 * k + 200 < _;omega⟩
theorem a4b{A:Around}{C:Addr}{us:List Value}{kw:List (Str×Value)}:(A.under (.builtin "type.__call__" ⟨.ref C :: us,kw⟩)).depth=A.depth + 1:=by
 first | rfl | simp [Around.under,Code.weight,Code.isCreation,Code.isGuard,Code.isCaller,Code.frames,Code.isFrame,guardIds]
theorem a3W{A:Around}{C:Addr}{us:List Value}{kw:List (Str×Value)}:(A.under (.builtin "type.__call__" ⟨.ref C :: us,kw⟩)).units=A.units + 1:=by
 first | rfl | simp [Around.under,Code.cUnits,Code.frames,Code.isFrame]
theorem Room.make{k:Nat}{A:Around}(r:Room (k + 1) A)(C:Addr)(us:List Value)(kw:List (Str×Value)):Room k (A.under (.builtin "type.__call__" ⟨.ref C :: us,kw⟩)) :=
 ⟨r.hd,by have:=r.dp;rw [a4b];omega,by have:=r.un;rw [a3W];omega⟩
theorem Room.depth{k:Nat}{A:Around}(r:Room k A):A.depth < recursionLimit:=by have:=r.dp;omega
theorem Room.units{k:Nat}{A:Around}(r:Room k A):A.units + 64 < cLine:=by have:=r.un;omega
theorem Room.units0{k:Nat}{A:Around}(r:Room k A):A.units < cLine:=by have:=r.un;omega
def b7O:TA:=fun _ H Q=>Q [] H
def c0q(ta:TE)(tr:TA):TA:=fun σ H Q=>ta σ H fun x H1=>tr σ H1 fun xs H2=>Q (x :: xs) H2
section
variable {X:Cx} {e:Expr} {es:List Expr} {te:TE} {t:TA} {pos:Pos}
theorem b6G:PA X [] b7O:=fun _ _ _ _ H Q I h=>Calls.spliced_nil ⟨[],H,I,.nil,h⟩
theorem b4t(ha:PE X e te)(hr:PA X es t)(hs:starEach (e :: es) X.env=(false,eval e X.env) :: starEach es X.env:=by rfl):PA X (e :: es) (c0q te t):=by
 intro pos pins s σ H Q I h;rw [hs];show wpAny _ _ (spliced ((false,eval e X.env) :: backTo pos (starEach es X.env))) _ _ s;refine Calls.spliced_cons (thn (ha pins s σ H _ I h) fun u s1 zz0=>?_);obtain ⟨x,H1,I1,r1,q1⟩:=zz0;exact thn (hr pos pins s1 σ H1 _ I1 q1) fun us s2 ⟨xs,H2,I2,r2,q2⟩=>⟨x :: xs,H2,I2,.cons r1 r2,q2⟩
def c2j(t:TA):TE:=fun σ H Q=>t σ H fun xs H1=>xs.length <= sizeLine/\∀ p,H1 p=none->Q (.ref p) (upd H1 p (.tup xs))
def c1Q(t:TA):TE:=fun σ H Q=>t σ H fun xs H1=>xs.length <= sizeLine/\∀ p,H1 p=none->Q (.ref p) (upd H1 p (.lst xs))
theorem b8A{x1}(h:PA X es t):PE X (.Tuple es x1 pos) (c2j t):=by
 intro pins s σ H Q I hq;refine wpAny_Tuple_spliced (thn (h pos pins s σ H _ I hq) fun us s1 ⟨xs,H1,I1,r,z,q⟩=>⟨by rw [<- r.length];exact z,?_⟩);have hf:H1 s1.heap.objs.size=none:=I1.hok.fresh (Nat.le_refl _);refine ⟨.ref s1.heap.objs.size,upd H1 s1.heap.objs.size (.tup xs),I1.laid (t':=s1.toks) (fun b u e=>Heap.get?_push_of_some _ e) (Nat.le_refl _) ?_,rfl,q _ hf⟩;exact ⟨z,us,r,⟨_,Heap.get?_push_size _ rfl,rfl,_,rfl⟩⟩
theorem b5K(h:PA X es t):PE X (.List es pos) (c1Q t):=by
 intro pins s σ H Q I hq;refine wpAny_List_spliced (thn (h pos pins s σ H _ I hq) fun us s1 ⟨xs,H1,I1,r,z,q⟩=>⟨by rw [<- r.length];exact z,?_⟩);have hf:H1 s1.heap.objs.size=none:=I1.hok.fresh (Nat.le_refl _);refine ⟨.ref s1.heap.objs.size,upd H1 s1.heap.objs.size (.lst xs),I1.laid (t':=s1.toks) (fun b u e=>Heap.get?_push_of_some _ e) (Nat.le_refl _) ?_,rfl,q _ hf⟩;exact ⟨z,us,0,r,Heap.get?_push_size _ rfl⟩
end
abbrev Sp:=List V->Hp->VK->XK->Prop
abbrev CXT:=List Env->Hp->Shared->XK->Value->Shared->Prop
structure Env0(P:Program)(w:World)(K:PySem.W.Frag)(mg:Str->Option Value)(base:Heap)(A:Around)(outer:List Env)(s:Shared)(H:Hp):Prop where
 frames:A.frames=some outer
 mod:Mod K mg base
 bs:∀ b o,base.get? b=some o->s.heap.get? b=some o/\H b=none
 bsz:base.objs.size <= s.heap.objs.size
 funs:s.heap.FunFrames base outer
 frf:∀ b ∈ frs outer,H b=none
 hok:HOk P w H s.heap
 bare:AllBare s.gens
def CE(outer:List Env)(P:Program)(w:World)(H:Hp)(s:Shared)(Q:VK)(u:Value)(s':Shared):Prop :=
 ∃ v H',s'.os=s.os/\AllBare s'.gens/\Un (frs outer) [] H H' s.heap s'.heap/\HOk P w H' s'.heap/\RelV v u/\Q v H'
def CR(CX:CXT)(outer:List Env)(P:Program)(w:World)(H:Hp)(s:Shared)(Q:VK)(E:XK)(r:Result)(s':Shared):Prop :=
 match r with
 |.ok (.ret u)=>CE outer P w H s Q u s'
 |.ok _=>False
 |.error e=>CX outer H s E e s'
structure l9(P:Program)(w:World)(K:PySem.W.Frag)(mg:Str->Option Value)(base:Heap)(CX:CXT)(k:Nat)(f:Addr)(fd:FuncData)(ps:List Str)(sp:Sp):Prop where
 len:∀ vs H Q E,sp vs H Q E->vs.length=ps.length
 run:∀ (A:Around) (outer:List Env) (s:Shared) (H:Hp) (args:Args) (us:List Value) (vs:List V) (Q:VK) (E:XK),Room k A->Env0 P w K mg base A outer s H->BindsTo s fd args (ps.zip us)->Vals vs us->sp vs H Q E ->
  codeAny (model P w) A (.call (.ref f) args) (CR CX outer P w H s Q E) s
theorem Env0.make{P:Program}{w:World}{K:PySem.W.Frag}{mg:Str->Option Value}{base:Heap}{A:Around}{outer:List Env}{s:Shared}{H:Hp}(e:Env0 P w K mg base A outer s H)(C:Addr)(us:List Value)(kw:List (Str×Value)) :
  Env0 P w K mg base (A.under (.builtin "type.__call__" ⟨.ref C :: us,kw⟩)) outer s H:=⟨by first | exact e.frames | (simpa [Around.under,Code.envs,Code.isFrame,pushEnvs] using e.frames),e.mod,e.bs,e.bsz,e.funs,e.frf,e.hok,e.bare⟩
section
variable {X:Cx} {pins:List (Addr×Obj)} {σ:St} {H:Hp} {s s':Shared}
theorem Inv.env0(I:Inv X pins σ H s):Env0 X.prog X.w X.K X.mg X.base X.A X.stack s H :=
 ⟨I.ok.frames,I.ok.mod,I.bs,Nat.le_trans I.ok.bsz I.sz,I.stack,I.stkFree,I.hok,I.bare⟩
theorem Inv.after{Q:VK}{u:Value}(I:Inv X pins σ H s)(h:CE X.stack X.prog X.w H s Q u s'):EP X pins σ Q u s':=by
 obtain ⟨v,H',os,bare,un,hok,r,q⟩:=h;obtain ⟨hh,g,d,t,os'⟩:=s'
 obtain rfl:os'=s.os:=os
 exact ⟨v,H',I.call (h':=hh) (g':=g) (d':=d) (t':=t) (ch:=[]) un hok bare (fun b z=>absurd z (by simp)),r,q⟩
end
def b5g(sp:Sp)(dvs:List V)(E:XK)(t:TA):TE:=fun σ H Q=>t σ H fun vs H1=>sp (vs ++ dvs) H1 Q E
def a5B(C:Addr)(m:Str)(sp:Sp)(dvs:List V)(E:XK)(ta:TE)(t:TA):TE:=fun σ H Q=>ta σ H fun x H1=>∃ a dx fs,x = .ref a/\H1 a=some (.ins C dx fs)/\fs.lookup m=none /\
 t σ H1 fun vs H2=>sp (x :: (vs ++ dvs)) H2 Q E
def a7x(C:Addr)(sp:Sp)(dvs:List V)(E:XK)(t:TA):TE:=fun σ H Q=>t σ H fun vs H1=>∀ x dx,H1 x=none->H1 dx=none->dx ≠ x ->
 sp (.ref x :: (vs ++ dvs)) (upd (upd H1 dx (.own x)) x (.ins C dx [])) (fun v H2=>v = .non/\Q (.ref x) H2) E
def Binds(K:PySem.W.Frag)(fd:FuncData)(ps:List Str)(ds:List Value):Prop :=
 ∀ (s:Shared) (us:List Value),K.In s.heap->(us ++ ds).length=ps.length->BindsTo s fd ⟨us,[]⟩ (ps.zip (us ++ ds))
theorem Binds.all{K:PySem.W.Frag}{fd:FuncData}{ps:List Str}(h:∀ us:List Value,us.length=ps.length->bindArgs fd ⟨us,[]⟩=pure (ps.zip us)):Binds K fd ps []:=fun s us _ hl=>by
 rw [List.append_nil] at hl ⊢;exact .of_eq (h us hl)
def O2(CX:CXT)(X:Cx)(E:XK):Prop:=∀ (pins:List (Addr×Obj)) (σ:St) (H:Hp) (s:Shared) (e:Value) (s':Shared),Inv X pins σ H s->CX X.stack H s E e s'->X.xe e s'
section
variable {X:Cx} {CX:CXT} {k:Nat} {f C:Addr} {fd:FuncData} {ps:List Str} {sp:Sp} {dvs:List V} {ds:List Value} {E:XK} {x m:Str} {p pos apos:Pos} {e o:Expr} {es:List Expr} {ta:TE} {t:TA}
theorem a3Y{pins:List (Addr×Obj)}{σ:St}{H:Hp}{s:Shared}{Q:VK}{us:List Value}{vs:List V}(F:l9 X.prog X.w X.K X.mg X.base CX k f fd ps sp)(hr:Room k X.A)(hb:Binds X.K fd ps ds)(hd:Vals dvs ds)(hx:O2 CX X E)
  (I:Inv X pins σ H s) (r:Vals vs us) (h:sp (vs ++ dvs) H Q E):wpAny (model X.prog X.w) X.A (call (.ref f) us) (EP X pins σ Q) X.xe s:=by
 have r2:Vals (vs ++ dvs) (us ++ ds):=r.append hd;have hl:(us ++ ds).length=ps.length:=by rw [<- r2.length];exact F.len _ _ _ _ h
 refine wpAny_call (codeAny_mono (F.run X.A X.stack s H ⟨us,[]⟩ (us ++ ds) (vs ++ dvs) Q E hr I.env0 (hb s us I.kIn hl) r2 h) fun r s' hq=>?_)
 cases r with
 |error e=>exact hx pins σ H s e s' I hq
 |ok fl =>
  cases fl with
  |ret u=>exact I.after hq
  |next=>exact False.elim hq
  |brk=>exact False.elim hq
  |cont=>exact False.elim hq
theorem b3w(F:l9 X.prog X.w X.K X.mg X.base CX k f fd ps sp)(hr:Room k X.A)(hg:Gl X x)(hm:X.mg x=some (.ref f))(hk:PySem.W.keepIn X.K (.ref f)=true)(hb:Binds X.K fd ps ds)(hd:Vals dvs ds)(hx:O2 CX X E)
  (ha:PA X (e :: es) t) (hdb:(x == ("__debug__":Str))=false:=by decide) (he:starEach (e :: es) X.env=(false,eval e X.env) :: starEach es X.env:=by rfl) (hpl:(backTo pos (starEach es X.env)).any (·.1)=false:=by rfl) :
  PE X (.Call (.Name x p) (e :: es) [] pos) (b5g sp dvs E t):=by
 intro pins s σ H Q I h;refine wpAny_Call_Name_kw (Z4 I hg hm ?_ hdb);refine PySem.W.callWith_K (h₀:=X.base) I.ok.mod.kin hk (thn (ha pos pins s σ H _ I h) fun us s1 ⟨vs,H1,I1,r,q⟩=>⟨I1.kIn,?_⟩) he hpl;exact a3Y F hr hb hd hx I1 r q
theorem b1K{pl:Sem Bool}(he:PE X o ta)(c:Cls X.K C)(hm:a9X X.K C m f)(F:l9 X.prog X.w X.K X.mg X.base CX k f fd ps sp)(hr:Room k X.A)(hb:Binds X.K fd ps ds)(hd:Vals dvs ds)(hx:O2 CX X E)(ha:PA X (e :: es) t)
  (hst:starEach (e :: es) X.env=(false,eval e X.env) :: starEach es X.env:=by rfl) (hpl:(backTo pos (starEach es X.env)).any (·.1)=false:=by rfl)
  (ht:eval (.Call (.Attribute o m apos) (e :: es) [] pos) X.env=(do
   let ov <- eval o X.env
   standAt apos.atName
   let (f,first) <- holding [ov] (getMethod ov m pl)
   callWith pos f first (backTo pos (starEach (e :: es) X.env)) (backToKw pos (keywordEach [] X.env))):=by rfl) :
  PE X (.Call (.Attribute o m apos) (e :: es) [] pos) (a5B C m sp dvs E ta t):=by
 intro pins s σ H Q I h;refine PySem.W.methodCall_KW (pl:=pl) (thn (he pins s σ H _ I h) fun u s1 ⟨x,H1,I1,rx,a,dx,fs,ex,ea,l,q⟩=>?_) ht;subst ex
 obtain rfl:u=Value.ref a:=rx
 refine Q7 I1 ea c hm l ?_;refine PySem.W.callWith_K (first:=[.ref a]) (h₀:=X.base) I.ok.mod.kin hm.kp (thn (ha pos pins s1 σ H1 _ I1 q) fun us s2 ⟨vs,H2,I2,r,q2⟩=>⟨I2.kIn,?_⟩) hst hpl;exact a3Y (us:=.ref a :: us) (vs:=.ref a :: vs) F hr hb hd hx I2 (.cons rfl r) q2
theorem a9o{pl:Sem Bool}(he:PE X o ta)(c:Cls X.K C)(hm:a9X X.K C m f)(F:l9 X.prog X.w X.K X.mg X.base CX k f fd ps sp)(hr:Room k X.A)(hb:Binds X.K fd ps ds)(hd:Vals dvs ds)(hx:O2 CX X E)
  (ht:eval (.Call (.Attribute o m apos) [] [] pos) X.env=(do
   let ov <- eval o X.env
   standAt apos.atName
   let (f,first) <- holding [ov] (getMethod ov m pl)
   callWith pos f first (backTo pos (starEach [] X.env)) (backToKw pos (keywordEach [] X.env))):=by rfl) :
  PE X (.Call (.Attribute o m apos) [] [] pos) (a5B C m sp dvs E ta b7O):=by
 intro pins s σ H Q I h;refine PySem.W.methodCall_KW (pl:=pl) (thn (he pins s σ H _ I h) fun u s1 ⟨x,H1,I1,rx,a,dx,fs,ex,ea,l,q⟩=>?_) ht;subst ex
 obtain rfl:u=Value.ref a:=rx
 refine Q7 I1 ea c hm l ?_;exact PySem.W.callWith_K0 (first:=[.ref a]) I1.kIn hm.kp (a3Y (us:=[.ref a]) (vs:=[.ref a]) F hr hb hd hx I1 (.cons rfl .nil) q)
structure Mk(K:PySem.W.Frag)(C f:Addr):Prop where
 makes:PySem.W.makesIn K C=true
 init:PySem.W.findIn K (.ref C) "__init__" = some (some (.ref f))
 fn:PySem.W.isFn K (.ref f)=true
 kp:PySem.W.keepIn K (.ref C)=true
theorem a2N{pins:List (Addr×Obj)}{σ:St}{H:Hp}{s:Shared}{Q:VK}{us:List Value}{vs:List V}(M:Mk X.K C f)(F:l9 X.prog X.w X.K X.mg X.base CX k f fd ps sp)(hr:Room (k + 1) X.A)(hb:Binds X.K fd ps ds)(hd:Vals dvs ds)
  (hx:O2 CX X E) (I:Inv X pins σ H s) (r:Vals vs us)
  (h:∀ x dx,H x=none->H dx=none->dx ≠ x->sp (.ref x :: (vs ++ dvs)) (upd (upd H dx (.own x)) x (.ins C dx [])) (fun v H2=>v = .non/\Q (.ref x) H2) E) :
  wpAny (model X.prog X.w) X.A (call (.ref C) us) (EP X pins σ Q) X.xe s:=by
 have hq:=h (s.heap.objs.size + 1) s.heap.objs.size (I.hok.fresh (Nat.le_succ _)) (I.hok.fresh (Nat.le_refl _)) (Nat.ne_of_lt (Nat.lt_succ_self _));have I2:=Inv.made (C:=C) I;have r2:Vals (V.ref (s.heap.objs.size + 1) :: (vs ++ dvs)) (Value.ref (s.heap.objs.size + 1) :: (us ++ ds)):=.cons rfl (r.append hd)
 have hl:(Value.ref (s.heap.objs.size + 1) :: us ++ ds).length=ps.length:=by
  have e:=r2.length;rw [F.len _ _ _ _ hq] at e;exact e.symm
 refine wpAny_call (a8p (f:=f) I.kIn M.makes M.init (beq_iff_eq.mp M.fn) (codeAny_mono (F.run _ X.stack _ _ ⟨Value.ref (s.heap.objs.size + 1) :: us,[]⟩ (Value.ref (s.heap.objs.size + 1) :: (us ++ ds)) _ _ E (hr.make C us [])
  (I2.env0.make C us []) (hb _ (Value.ref (s.heap.objs.size + 1) :: us) I2.kIn hl) r2 hq) fun r s' hq'=>?_))
 cases r with
 |error e=>exact hx pins σ _ _ e s' I2 hq'
 |ok fl =>
  cases fl with
  |ret u =>
   obtain ⟨v,H',I3,rv,ev,q3⟩:=I2.after hq';subst ev;exact ⟨rv,⟨V.ref (s.heap.objs.size + 1),H',I3,rfl,q3⟩⟩
  |next=>exact False.elim hq'
  |brk=>exact False.elim hq'
  |cont=>exact False.elim hq'
theorem b1L(M:Mk X.K C f)(F:l9 X.prog X.w X.K X.mg X.base CX k f fd ps sp)(hr:Room (k + 1) X.A)(hg:Gl X x)(hm:X.mg x=some (.ref C))(hb:Binds X.K fd ps ds)(hd:Vals dvs ds)(hx:O2 CX X E)
  (ha:PA X (e :: es) t) (hdb:(x == ("__debug__":Str))=false:=by decide) (he:starEach (e :: es) X.env=(false,eval e X.env) :: starEach es X.env:=by rfl) (hpl:(backTo pos (starEach es X.env)).any (·.1)=false:=by rfl) :
  PE X (.Call (.Name x p) (e :: es) [] pos) (a7x C sp dvs E t):=by
 intro pins s σ H Q I h;refine wpAny_Call_Name_kw (Z4 I hg hm ?_ hdb);refine PySem.W.callWith_K (h₀:=X.base) I.ok.mod.kin M.kp (thn (ha pos pins s σ H _ I h) fun us s1 ⟨vs,H1,I1,r,q⟩=>⟨I1.kIn,?_⟩) he hpl;exact a2N M F hr hb hd hx I1 r q
theorem a7Z(M:Mk X.K C f)(F:l9 X.prog X.w X.K X.mg X.base CX k f fd ps sp)(hr:Room (k + 1) X.A)(hg:Gl X x)(hm:X.mg x=some (.ref C))(hb:Binds X.K fd ps ds)(hd:Vals dvs ds)(hx:O2 CX X E)
  (hdb:(x == ("__debug__":Str))=false:=by decide):PE X (.Call (.Name x p) [] [] pos) (a7x C sp dvs E b7O):=by
 intro pins s σ H Q I h;refine wpAny_Call_Name_kw (Z4 I hg hm ?_ hdb);exact PySem.W.callWith_K0 I.kIn M.kp (a2N (us:=[]) M F hr hb hd hx I .nil h)
end
section
variable {X:Cx} {CX:CXT} {k:Nat} {f C:Addr} {fd:FuncData} {ps ks:List Str} {sp:Sp} {E:XK} {x m:Str} {p pos apos kpos:Pos} {e o:Expr} {es:List Expr} {kws:List Keyword} {te ta:TE} {t tk:TA} {nm:Option Str}
variable {g:List Value->List Value->List Value} {gV:List V->List V->List V}
end
structure i4(N P:List Str)(sc:Scope):Prop where
 kind:sc.kind = .function
 co:sc.isCoroutine=false
 gen:sc.isGenerator=false
 nd:N.Nodup
 pre:N.take P.length=P
 par:∀ x ∈ P,sc.names.lookup x=some .local\/sc.names.lookup x=some .cell
 nofree:∀ y ∈ sc.names,y.2 ≠ .free
theorem a1z{kindOf:Str->Option NameKind}{x:Str}:∀ {binds:List (Str×Value)} {m:Str->Option Value},(∀ v,(x,v) ∉ binds)->bindL kindOf binds m x=m x
 |[],_,_=>rfl
 |(n,v) :: r,m,h=>by
  unfold bindL;rw [a1z fun w hw=>h w (List.mem_cons_of_mem _ hw)];split
  ·have:x ≠ n:=by rintro rfl;exact h v List.mem_cons_self
   simp [this]
  ·rfl
theorem a1k{kindOf:Str->Option NameKind}{x:Str}:∀ {binds:List (Str×Value)} {m:Str->Option Value},(∀ v,(x,v) ∉ binds)->bindC kindOf binds m x=m x
 |[],_,_=>rfl
 |(n,v) :: r,m,h=>by
  unfold bindC;rw [a1k fun w hw=>h w (List.mem_cons_of_mem _ hw)];split
  ·rfl
  ·have:x ≠ n:=by rintro rfl;exact h v List.mem_cons_self
   simp [this]
theorem a1x{kindOf:Str->Option NameKind}{x:Str}{v:Value}:∀ {P:List Str} {vs:List Value} {i:Nat} {m:Str->Option Value},P.Nodup->P[i]?=some x->vs[i]?=some v->kindOf x=some .local ->
  bindL kindOf (P.zip vs) m x=some v
 |[],_,_,_,_,h,_,_=>by simp at h
 |_ :: _,[],_,_,_,_,h,_=>by simp at h
 |p :: P,w :: vs,0,m,nd,h1,h2,hk=>by
  simp at h1 h2;subst h1;subst h2;show bindL kindOf ((p,w) :: P.zip vs) m p=_;unfold bindL;rw [a1z fun v hv=>(List.nodup_cons.mp nd).1 (List.of_mem_zip hv).1,if_pos hk]
  simp
 |p :: P,w :: vs,i + 1,m,nd,h1,h2,hk=>by
  show bindL kindOf ((p,w) :: P.zip vs) m x=_;unfold bindL;exact a1x (i:=i) (List.nodup_cons.mp nd).2 (by simpa using h1) (by simpa using h2) hk
theorem a1C{kindOf:Str->Option NameKind}{x:Str}{v:Value}:∀ {P:List Str} {vs:List Value} {i:Nat} {m:Str->Option Value},P.Nodup->P[i]?=some x->vs[i]?=some v->kindOf x ≠ some .local ->
  bindC kindOf (P.zip vs) m x=some v
 |[],_,_,_,_,h,_,_=>by simp at h
 |_ :: _,[],_,_,_,_,h,_=>by simp at h
 |p :: P,w :: vs,0,m,nd,h1,h2,hk=>by
  simp at h1 h2;subst h1;subst h2;show bindC kindOf ((p,w) :: P.zip vs) m p=_;unfold bindC;rw [a1k fun v hv=>(List.nodup_cons.mp nd).1 (List.of_mem_zip hv).1,if_neg hk]
  simp
 |p :: P,w :: vs,i + 1,m,nd,h1,h2,hk=>by
  show bindC kindOf ((p,w) :: P.zip vs) m x=_;unfold bindC;exact a1C (i:=i) (List.nodup_cons.mp nd).2 (by simpa using h1) (by simpa using h2) hk
def start(N:List Str)(vs:List V):St:=vs.map some ++ List.replicate (N.length - vs.length) none
def a2Q(CX:CXT)(P:Program)(w:World)(K:PySem.W.Frag)(mg:Str->Option Value)(base:Heap)(N:List Str)(qual:Str)(scope:Scope)(f:Addr)(cd:Value)(A:Around)(outer:List Env)(s:Shared)(H:Hp)(E:XK):Cx where
 prog:=P
 w:=w
 K:=K
 mg:=mg
 base:=base
 A:=A.deeper (envOfC qual scope s.heap.objs.size f cd)
 N:=N
 s₀:=s
 H₀:=H
 env:=envOfC qual scope s.heap.objs.size f cd
 outer:=outer
 stack:=envOfC qual scope s.heap.objs.size f cd :: outer
 ex:=[]
 calm:=true
 fn:=fun _=>true
 pn:=[]
 xe:=fun e s'=>wpAny (model P w) (A.deeper (envOfC qual scope s.heap.objs.size f cd)) (leaving (envOfC qual scope s.heap.objs.size f cd) e) (fun _ s''=>CX outer H s E e s'') (fun e' s''=>CX outer H s E e' s'') s'
theorem a3q{sc:Scope}{n:Nat}{x:Str}(h:sc.names.lookup x=some .cell):∃ c,(cellsFrom n sc.names []).lookup x=some c:=by
 have q:=PySem.W.cellsFrom_some sc.names n [] (.inl h);exact Option.isSome_iff_exists.mp q
theorem a5R{CX:CXT}{P:Program}{w:World}{K:PySem.W.Frag}{mg:Str->Option Value}{base:Heap}{N ps:List Str}{qual:Str}{scope:Scope}{f:Addr}{cd:Value}{A:Around}{outer:List Env}{s s1:Shared}{H:Hp}{E:XK}{us:List Value}{vs:List V}
  (S:i4 N ps scope) (hd:A.handled=none) (e0:Env0 P w K mg base A outer s H) (hl:vs.length=ps.length) (r:Vals vs us)
  (x:InCallC s s.heap.objs.size (bindL (envOfC qual scope s.heap.objs.size f cd).kindOf (ps.zip us) fun _=>none) (cellsFrom (s.heap.objs.size + 1) scope.names []) (bindC (envOfC qual scope s.heap.objs.size f cd).kindOf (ps.zip us) fun _=>none) s1) :
  Inv (a2Q CX P w K mg base N qual scope f cd A outer s H E) [] (start N vs) H s1:=by
 have hpl:ps.length <= N.length:=by have:=congrArg List.length S.pre;rw [List.length_take] at this;omega
 obtain ⟨h1,tk,rfl,hk⟩:=x.done;have noA:∀ b:Addr,b ∉ (a2Q CX P w K mg base N qual scope f cd A outer s H E).ex:=fun b z=>absurd (show b ∈ ([]:List Addr) from z) (by simp)
 refine ⟨⟨e0.mod,S.kind,rfl,rfl,Nat.le_refl _,fun y z c h1 h2=>?_,fun y hy=>?_,fun y c _ h=>?_,fun _=>hd,Around.frames_deeper e0.frames,.inr ⟨rfl,rfl⟩,fun b z=>absurd z (noA b),e0.bs,e0.bsz,fun b _ _=>noA b,fun b z=>absurd z (noA b),e0.funs,e0.frf⟩,
  rfl,e0.bare,Un.kept hk,⟨_,x.toInCall.ns,fun i y v h1 h2 h3=>?_⟩,fun y c h=>⟨_,x.cell y c h⟩,e0.hok.fresh (Nat.le_refl _),fun y c h=>?_,fun p hp=>absurd (show p ∈ ([]:List (Addr×Obj)) from hp) (by simp),e0.hok.kept hk,?_⟩
 ·exact name_of_addr x.apart (PySem.mem_of_lookup h1) (PySem.mem_of_lookup h2)
 ·have hy:scope.names.lookup y=some .cell\/scope.names.lookup y=some .free:=hy
  rcases hy with hy | hy
  ·exact a3q hy
  ·exact absurd rfl (S.nofree _ (PySem.mem_of_lookup hy))
 ·exact Nat.le_of_lt (x.above y c (PySem.mem_of_lookup h))
 ·have hi:i < vs.length:=by
   unfold start at h2
   by_cases hi:i < vs.length
   ·exact hi
   ·rw [List.getElem?_append_right (by simpa using hi)] at h2;rw [List.getElem?_replicate] at h2
    split at h2 <;> cases h2
  have ha:vs[i]?=some v:=by
   unfold start at h2;rw [List.getElem?_append_left (by simpa using hi),List.getElem?_map] at h2
   cases e:vs[i]? with
   |none=>rw [e] at h2;cases h2
   |some a=>rw [e] at h2;cases h2;rfl
  obtain ⟨u,hu,rv⟩:=r.get ha
  have hp:ps[i]?=some y:=by
   rw [<- S.pre,List.getElem?_take_of_lt (by omega)];exact h1
  have ndP:ps.Nodup:=by rw [<- S.pre];exact S.nd.sublist (List.take_sublist _ _)
  refine ⟨u,rv,?_⟩
  rcases S.par y (List.mem_of_getElem? hp) with k | k
  ·exact .inl ⟨k,a1x ndP hp hu k⟩
  ·obtain ⟨c,e⟩:=a3q (n:=s.heap.objs.size + 1) k;refine .inr ⟨.inl k,c,e,?_⟩;have q:=x.cell y c e;rw [a1C ndP hp hu (by show scope.names.lookup y ≠ _;rw [k];decide)] at q;exact q
 ·exact e0.hok.fresh (Nat.le_of_lt (x.above y c (PySem.mem_of_lookup h)))
 ·unfold start;show _=N.length;rw [List.length_append,List.length_map,List.length_replicate];omega
theorem b9l{CX:CXT}{P:Program}{w:World}{K:PySem.W.Frag}{mg:Str->Option Value}{base:Heap}{k:Nat}{f:Addr}{name qual:Str}{params:Arguments}{body:List Stmt}{scope:Scope}{dV kV doc pm cdv ct oc:Value}{an od:Option Addr}
  {osl:Array (Option Value)} {N ps:List Str} {sp:Sp} (lk:K.lookup f=some ⟨oc,od,.func (PySem.W.fnOf name qual params body scope dV kV doc pm an cdv ct),osl⟩) (hcd:PySem.W.codeIn K cdv qual=true) (S:i4 N ps scope)
  (len:∀ vs H Q E,sp vs H Q E->vs.length=ps.length)
  (hbody:∀ (A:Around) (outer:List Env) (s:Shared) (H:Hp) (vs:List V) (Q:VK) (E:XK),Room k (A.deeper (envOfC qual scope s.heap.objs.size f cdv))->sp vs H Q E ->
   ∃ t,PSs (a2Q CX P w K mg base N qual scope f cdv A outer s H E) body t/\t { nx:=fun _ H'=>Q .non H',rt:=Q } (start N vs) H) :
  l9 P w K mg base CX (k + 1) f (PySem.W.fnOf name qual params body scope dV kV doc pm an cdv ct) ps sp:=by
 refine ⟨len,fun A outer s H args us vs Q E hr e0 hb r hsp=>?_⟩;have hl:=len _ _ _ _ hsp;have KX:K.In s.heap:=e0.mod.kin.keeps fun b o e=>(e0.bs b o e).1;have lim:s.heap.NoLimit:=e0.mod.nolimit.keeps fun b o e=>(e0.bs b o e).1
 have hkind:∀ y ∈ ps.zip us,scope.names.lookup y.1=some .local\/(scope.names.lookup y.1=some .cell/\((cellsFrom (s.heap.objs.size + 1) scope.names []).lookup y.1).isSome=true):=fun zz0 hy=>by
  obtain ⟨n,v⟩:=zz0
  rcases S.par n (List.of_mem_zip hy).1 with q | q
  ·exact .inl q
  ·exact .inr ⟨q,PySem.W.cellsFrom_some _ _ _ (.inl q)⟩
 refine codeAny_call_function hr.depth (KX _ _ lk) rfl S.co S.gen rfl (PySem.W.codeRec_of KX hcd) (hb _ _ _ _ ?_);refine wpAny_newFunctionEnv_cells S.kind hkind fun env he s1 x=>?_;subst he;refine ⟨lim.keeps x.toInCall.keep,codeAny_func ?_⟩;obtain ⟨t,ht,hq⟩:=hbody A outer s H vs Q E (hr.deeper _) hsp;have I:Inv (a2Q CX P w K mg base N qual scope f cdv A outer s H E) [] (start N vs) H s1:=a5R S hr.hd e0 hl r x;refine wpAny_mono (ht [] s1 (start N vs) H _ I hq) (fun fl s' hs=>?_) fun e s' hs=>hs
 have fin:∀ {σ':St} {H':Hp} {v:V} {u:Value},Inv (a2Q CX P w K mg base N qual scope f cdv A outer s H E) [] σ' H' s'->RelV v u->Q v H'->CE outer P w H s Q u s' :=
  fun {σ' H' v u} J rv q=>⟨v,H',J.os,J.bare,J.base,J.hok,rv,q⟩
 cases fl with
 |ret u =>
  obtain ⟨v,σ',H',J,rv,q⟩:=hs;exact fin J rv q
 |next =>
  obtain ⟨σ',H',J,q⟩:=hs;exact fin (v:=V.non) (u:=Value.none) J rfl q
 |brk =>
  obtain ⟨_,_,_,q⟩:=hs;exact False.elim q
 |cont =>
  obtain ⟨_,_,_,q⟩:=hs;exact False.elim q
end L2
namespace L2
open PySem PySem.Spec PyProof.Rows
section
variable {X:Cx} {x:Str} {p pos:Pos} {e:Expr} {es:List Expr} {t:TA} {id T:String} {r:List V->Hp->VK->Prop}
def tCB(r:List V->Hp->VK->Prop)(t:TA):TE:=fun σ H Q=>t σ H fun vs H1=>r vs H1 Q
theorem a9O(hc:CallR X (.builtin id) r)(hg:Gl X x)(hm:X.mg x=none)(hv:bootBuiltins x=some (.builtin id))(ha:PA X (e :: es) t)(hn:x ≠ "__name__":=by decide)(hdb:(x == ("__debug__":Str))=false:=by decide)
  (he:starEach (e :: es) X.env=(false,eval e X.env) :: starEach es X.env:=by rfl) (hpl:(backTo pos (starEach es X.env)).any (·.1)=false:=by rfl):PE X (.Call (.Name x p) (e :: es) [] pos) (tCB r t):=by
 intro pins s σ H Q I h;refine wpAny_Call_Name_kw (a0l I hg hm hv ?_ hn hdb);exact PyProof.Rows.callWith_builtin1 (thn (ha pos pins s σ H _ I h) fun us s1 ⟨vs,H1,I1,r1,q1⟩=>hc pins s1 σ H1 vs us Q I1 r1 q1) he hpl
theorem a1f(hc:CallR X (.type T) r)(hg:Gl X x)(hm:X.mg x=none)(hv:bootBuiltins x=some (.type T))(ha:PA X (e :: es) t)(hn:x ≠ "__name__":=by decide)(hdb:(x == ("__debug__":Str))=false:=by decide)
  (he:starEach (e :: es) X.env=(false,eval e X.env) :: starEach es X.env:=by rfl) (hpl:(backTo pos (starEach es X.env)).any (·.1)=false:=by rfl):PE X (.Call (.Name x p) (e :: es) [] pos) (tCB r t):=by
 intro pins s σ H Q I h;refine wpAny_Call_Name_kw (a0l I hg hm hv ?_ hn hdb);exact PyProof.Rows.callWith_type1 (thn (ha pos pins s σ H _ I h) fun us s1 ⟨vs,H1,I1,r1,q1⟩=>hc pins s1 σ H1 vs us Q I1 r1 q1) he hpl
end
end L2
namespace L2
open PySem PySem.Spec PyProof.Rows
section
variable {κ:Type} [DecidableEq κ]
def G0(kvs:List (κ×V))(k:κ):Option V:=(kvs.find? fun kv=>decide (kv.1=k)).map (·.2)
def M4(kvs:List (κ×V))(k:κ)(v:V):List (κ×V) :=
 if (kvs.any fun kv=>decide (kv.1=k))=true then kvs.map (fun kv=>if kv.1=k then (kv.1,v) else kv) else kvs ++ [(k,v)]
theorem T6{p:κ×V}{r:List (κ×V)}{k:κ}(e:p.1=k):G0 (p :: r) k=some p.2:=by simp [G0,List.find?_cons,e]
theorem S5{p:κ×V}{r:List (κ×V)}{k:κ}(e:¬ p.1=k):G0 (p :: r) k=G0 r k:=by simp [G0,List.find?_cons,e]
theorem a3w(k:κ):∀ kvs:List (κ×V),(kvs.any fun kv=>decide (kv.1=k))=(G0 kvs k).isSome
 |[]=>rfl
 |p :: r=>by
  rw [List.any_cons]
  by_cases e:p.1=k
  ·simp only [T6 e,decide_eq_true e,Bool.true_or,Option.isSome_some]
  ·rw [S5 e,decide_eq_false e,Bool.false_or];exact a3w k r
theorem N6(kvs:List (κ×V))(k:κ)(v:V):(M4 kvs k v).length <= kvs.length + 1:=by
 unfold M4;split
 ·rw [List.length_map];omega
 ·rw [List.length_append,List.length_cons,List.length_nil];omega
theorem RelO.isSome_eq{o:Option V}{u:Option Value}(r:RelO o u):o.isSome=u.isSome:=by
 cases o with
 |none=>cases u with
  |none=>rfl
  |some _=>exact (show False from r).elim
 |some _=>cases u with
  |none=>exact (show False from r).elim
  |some _=>rfl
theorem RelO.getD{o:Option V}{u:Option Value}{d:V}{d':Value}(r:RelO o u)(rd:RelV d d'):RelV (o.getD d) (u.getD d'):=by
 cases o with
 |none=>cases u with
  |none=>exact rd
  |some _=>exact (show False from r).elim
 |some _=>cases u with
  |none=>exact (show False from r).elim
  |some _=>exact r
theorem KV.val{kvs:List (κ×V)}{vs:List (κ×Value)}(r:KV kvs vs)(k:κ):RelO (G0 kvs k) (valueAt vs k):=by
 unfold KV at r
 induction r with
 |nil=>exact True.intro
 |@cons p q ps qs h t ih =>
  obtain ⟨h1,h2⟩:=h
  by_cases e:p.1=k
  ·have e':q.1=k:=h1.symm.trans e;have b:valueAt (q :: qs) k=some q.2:=by simp [valueAt,List.find?_cons,e']
   rw [T6 e,b];exact h2
  ·have e':¬ q.1=k:=fun z=>e (h1.trans z);have b:valueAt (q :: qs) k=valueAt qs k:=by simp [valueAt,List.find?_cons,e']
   rw [S5 e,b];exact ih
theorem KV.any{kvs:List (κ×V)}{vs:List (κ×Value)}(r:KV kvs vs)(k:κ):(kvs.any fun kv=>decide (kv.1=k))=vs.any fun kv=>decide (kv.1=k):=by
 unfold KV at r
 induction r with
 |nil=>rfl
 |cons h t ih=>rw [List.any_cons,List.any_cons,ih,h.1]
theorem KV.repl{kvs:List (κ×V)}{vs:List (κ×Value)}(r:KV kvs vs)(k:κ){y:V}{u:Value}(ry:RelV y u) :
  KV (kvs.map fun kv=>if kv.1=k then (kv.1,y) else kv) (vs.map fun kv=>if kv.1=k then (kv.1,u) else kv):=by
 unfold KV at r ⊢
 induction r with
 |nil=>exact .nil
 |@cons p q ps qs h t ih =>
  rw [List.map_cons,List.map_cons];refine .cons ?_ ih;obtain ⟨h1,h2⟩:=h
  by_cases e:p.1=k
  ·rw [if_pos e,if_pos (h1.symm.trans e)];exact ⟨h1,ry⟩
  ·rw [if_neg e,if_neg (fun z=>e (h1.trans z))];exact ⟨h1,h2⟩
theorem KV.put{kvs:List (κ×V)}{vs:List (κ×Value)}(r:KV kvs vs)(k:κ){y:V}{u:Value}(ry:RelV y u):KV (M4 kvs k y) (stored vs k u):=by
 unfold M4 stored;rw [r.any k]
 by_cases e:(vs.any fun kv=>decide (kv.1=k))=true
 ·rw [if_pos e,if_pos e];exact r.repl k ry
 ·rw [if_neg e,if_neg e];exact Paired.snoc r ⟨rfl,ry⟩
theorem KV.length{kvs:List (κ×V)}{vs:List (κ×Value)}(r:KV kvs vs):kvs.length=vs.length:=Paired.length r
end
theorem Y2{P:Program}{w:World}{k:Key}{u:Value}(r:RelV (kV k) u):(o7 P w).is k u=true:=by
 cases k with
 |inl i=>obtain ⟨t,e⟩:=(show ∃ t,u=Value.int i t from r);subst e;exact a2R P w i t
 |inr x=>obtain ⟨t,e⟩:=(show ∃ t,u=Value.str x t from r);subst e;exact a2L P w x t
theorem a1u{P:Program}{w:World}:∀ {ks:List Key} {us:List Value},Vals (ks.map kV) us->ItemsAre (o7 P w) ks us
 |[],_,r=>by rw [List.map_nil] at r;cases r;exact .nil
 |k :: ks,_,r=>by
  rw [List.map_cons] at r
  cases r with
  |cons h t=>exact .cons (Y2 h) (a1u t)
abbrev KT(H:Hp):List (List Key×V)->List (List Key×Addr×Value)->Prop:=Paired fun p q=>p.1=q.1/\H q.2.1=some (.tup (p.1.map kV))/\RelV p.2 q.2.2
theorem KT.val{H:Hp}{kvs:List (List Key×V)}{xs:List (List Key×Addr×Value)}(r:KT H kvs xs)(k:List Key):RelO (G0 kvs k) ((atKey xs k).map (·.2)):=by
 induction r with
 |nil=>exact True.intro
 |@cons p q ps qs h t ih =>
  obtain ⟨h1,_,h2⟩:=h
  by_cases e:p.1=k
  ·have e':q.1=k:=h1.symm.trans e;have b:atKey (q :: qs) k=some q.2:=by simp [atKey,List.find?_cons,e']
   rw [T6 e,b];exact h2
  ·have e':¬ q.1=k:=fun z=>e (h1.trans z);have b:atKey (q :: qs) k=atKey qs k:=by simp [atKey,List.find?_cons,e']
   rw [S5 e,b];exact ih
theorem KT.repl{H:Hp}{kvs:List (List Key×V)}{xs:List (List Key×Addr×Value)}(r:KT H kvs xs)(k:List Key){y:V}{u:Value}(ry:RelV y u) :
  KT H (kvs.map fun kv=>if kv.1=k then (kv.1,y) else kv) (xs.map (putAt k u)):=by
 induction r with
 |nil=>exact .nil
 |@cons p q ps qs h t ih =>
  rw [List.map_cons,List.map_cons];refine .cons ?_ ih;obtain ⟨h1,h2,h3⟩:=h;unfold putAt
  by_cases e:p.1=k
  ·rw [if_pos e,if_pos (h1.symm.trans e)];exact ⟨h1,h2,ry⟩
  ·rw [if_neg e,if_neg (fun z=>e (h1.trans z))];exact ⟨h1,h2,h3⟩
theorem KT.put{H:Hp}{kvs:List (List Key×V)}{xs:List (List Key×Addr×Value)}(r:KT H kvs xs)(k:List Key){b:Addr}{y:V}{u:Value}(hb:H b=some (.tup (k.map kV)))(ry:RelV y u) :
  KT H (M4 kvs k y) (storedH xs k b u):=by
 have e:(kvs.any fun kv=>decide (kv.1=k))=(atKey xs k).isSome:=by
  rw [a3w,(r.val k).isSome_eq,Option.isSome_map]
 unfold M4 storedH;rw [e]
 by_cases q:(atKey xs k).isSome=true
 ·rw [if_pos q,if_pos q];exact r.repl k ry
 ·rw [if_neg q,if_neg q];exact Paired.snoc r ⟨rfl,hb,ry⟩
theorem KT.keeps{H H':Hp}{kvs:List (List Key×V)}{xs:List (List Key×Addr×Value)}(r:KT H kvs xs)(ht:∀ b ys,H b=some (.tup ys)->H' b=some (.tup ys)):KT H' kvs xs :=
 Paired.mapP r fun _ _ z=>⟨z.1,ht _ _ z.2.1,z.2.2⟩
section
variable {P:Program} {w:World} {H:Hp} {h:Heap} {a:Addr}
theorem b4C{u:HO}(ok:HOk P w H h)(e:Rd H a u):ObjOk P w H h a u:=e.ok ok
theorem Y5{kvs:List (Key×V)}(ok:HOk P w H h)(e:Rd H a (.dK kvs)):kvs.length <= sizeLine/\(a == sysModules)=false/\∃ vs,KV kvs vs/\h.DictOf (o7 P w) a vs :=
 show ObjOk P w H h a (.dK kvs) from b4C ok e
theorem b9x{kvs:List (Key×V)}(ok:HOk P w H h)(e:H a=some (.dK kvs)):kvs.length <= sizeLine/\(a == sysModules)=false/\∃ vs,KV kvs vs/\h.DictOf (o7 P w) a vs:=Y5 ok (.inl e)
theorem N8{ks:List Key}(ok:HOk P w H h)(e:H a=some (.tup (ks.map kV))):(tupleKind (o7 P w)).is h ks a:=by
 obtain ⟨_,its,r,o,h1,h2,n,h3⟩:=(show ObjOk P w H h a (.tup (ks.map kV)) from ok a _ e)
 exact ⟨o,its.toArray,n,h1,h2,h3,by simpa using a1u r⟩
theorem X5{kvs:List (List Key×V)}(ok:HOk P w H h)(e:Rd H a (.dT kvs)):kvs.length <= sizeLine/\(a == sysModules)=false /\
  ∃ xs,KT H kvs xs/\h.DictOfH (tupleKind (o7 P w)) a xs:=by
 obtain ⟨z,y,xs,r,o,es,ep,h1,h2,h3,h4,h5⟩:=(show ObjOk P w H h a (.dT kvs) from b4C ok e)
 refine ⟨z,y,xs,r,o,es,ep,h1,h2,h3,h4,fun x hx=>?_,h5⟩
 have all:∀ {l:List (List Key×V)} {m:List (List Key×Addr×Value)},KT H l m->∀ x ∈ m,(tupleKind (o7 P w)).is h x.1 x.2.1:=by
  intro l m q
  induction q with
  |nil=>intro x hx;exact nomatch hx
  |@cons p q ps qs hq t ih =>
   intro x hx
   rcases List.mem_cons.mp hx with e | hx
   ·subst e;exact N8 ok (by rw [<- hq.1];exact hq.2.1)
   ·exact ih x hx
 exact all r x hx
theorem b4Y{kvs:List (List Key×V)}(ok:HOk P w H h)(e:H a=some (.dT kvs)):kvs.length <= sizeLine/\(a == sysModules)=false /\
  ∃ xs,KT H kvs xs/\h.DictOfH (tupleKind (o7 P w)) a xs:=X5 ok (.inl e)
end
def Y7(H:Hp)(a:Addr)(y:V)(r:Option V):Prop :=
 (∃ kvs k,Rd H a (.dK kvs)/\y=kV k/\r=G0 kvs k)\/∃ kvs k b,Rd H a (.dT kvs)/\y = .ref b/\H b=some (.tup (k.map kV))/\r=G0 kvs k
def DPut(H:Hp)(a:Addr)(y v:V)(H':Hp):Prop :=
 (∃ kvs k,H a=some (.dK kvs)/\y=kV k/\kvs.length < sizeLine/\H'=upd H a (.dK (M4 kvs k v))) \/
 ∃ kvs k b,H a=some (.dT kvs)/\y = .ref b/\H b=some (.tup (k.map kV))/\kvs.length < sizeLine/\H'=upd H a (.dT (M4 kvs k v))
theorem DPut.t{H:Hp}{a b:Addr}{kvs:List (List Key×V)}{k:List Key}{v:V}(e:H a=some (.dT kvs))(eb:H b=some (.tup (k.map kV)))(hl:kvs.length < sizeLine) :
  DPut H a (.ref b) v (upd H a (.dT (M4 kvs k v))):=.inr ⟨kvs,k,b,e,rfl,eb,hl,rfl⟩
section
variable {X:Cx} {pins:List (Addr×Obj)} {σ:St} {H:Hp} {s:Shared} {a:Addr} {y v:V} {u r:Value} {o:Option V} {A:Around} {E:Value->Shared->Prop}
theorem Inv.big(I:Inv X pins σ H s):sysModules < s.heap.objs.size:=by
 have h:mainGlobals < s.heap.objs.size:=(I.mod.glob.keeps I.bk).lt;exact Nat.lt_trans (by decide) h
theorem a6G{Q:Value->Shared->Prop}(hu:A.units + 1 < cLine)(I:Inv X pins σ H s)(g:Y7 H a y (some v))(ry:RelV y u)(h:∀ w' s',Inv X pins σ H s'->RelV v w'->Q w' s') :
  wpAny (model X.prog X.w) A (getItem (.ref a) u) Q E s:=by
 rcases g with ⟨kvs,k,e,ey,l⟩ | ⟨kvs,k,b,e,ey,eb,l⟩
 ·subst ey;obtain ⟨z,hd,vs,rel,dd⟩:=Y5 I.hok e;obtain ⟨w',hw,rw'⟩:=RelO.some_of (v:=v) (o:=valueAt vs k) (by rw [l];exact rel.val k);exact wpAny_getItem_of (Y2 ry) dd.mapOf hw (h w' _ (I.tok _) rw')
 ·subst ey
  cases (show u=Value.ref b from ry)
  obtain ⟨z,hd,xs,rel,dd⟩:=X5 I.hok e;obtain ⟨w',hw,rw'⟩:=RelO.some_of (v:=v) (o:=(atKey xs k).map (·.2)) (by rw [l];exact rel.val k);obtain ⟨p,hp,hp2⟩:=Option.map_eq_some_iff.mp hw;refine wpAny_getItem_heap (tupleKind_room_in1 hu) (N8 I.hok eb) dd hp ?_;rw [hp2];exact h w' _ (I.tok _) rw'
theorem c1I{Q:Value->Shared->Prop}(hu:A.units + 1 < cLine)(I:Inv X pins σ H s)(g:Y7 H a y o)(ry:RelV y u)(h:∀ s',Inv X pins σ H s'->Q (.bool o.isSome) s') :
  wpAny (model X.prog X.w) A (compareOp .In u (.ref a)) Q E s:=by
 rcases g with ⟨kvs,k,e,ey,l⟩ | ⟨kvs,k,b,e,ey,eb,l⟩
 ·subst ey;obtain ⟨z,hd,vs,rel,dd⟩:=Y5 I.hok e;refine wpAny_in_of (Y2 ry) hd dd.mapOf ?_;rw [<- (rel.val k).isSome_eq,<- l];exact h _ (I.tok _)
 ·subst ey
  cases (show u=Value.ref b from ry)
  obtain ⟨z,hd,xs,rel,dd⟩:=X5 I.hok e;refine wpAny_in_heap (tupleKind_room_in1 hu) (N8 I.hok eb) hd dd ?_;have q:=(rel.val k).isSome_eq;rw [Option.isSome_map] at q;rw [<- q,<- l];exact h _ (I.tok _)
theorem b3g{Q:Value->Shared->Prop}(hu:A.units + 1 < cLine)(I:Inv X pins σ H s)(g:Y7 H a y o)(ry:RelV y u)(h:∀ s',Inv X pins σ H s'->Q (.bool (!o.isSome)) s') :
  wpAny (model X.prog X.w) A (compareOp .NotIn u (.ref a)) Q E s:=by
 rcases g with ⟨kvs,k,e,ey,l⟩ | ⟨kvs,k,b,e,ey,eb,l⟩
 ·subst ey;obtain ⟨z,hd,vs,rel,dd⟩:=Y5 I.hok e;refine wpAny_notIn_of (Y2 ry) hd dd.mapOf ?_;rw [<- (rel.val k).isSome_eq,<- l];exact h _ (I.tok _)
 ·subst ey
  cases (show u=Value.ref b from ry)
  obtain ⟨z,hd,xs,rel,dd⟩:=X5 I.hok e;refine wpAny_notIn_heap (tupleKind_room_in1 hu) (N8 I.hok eb) hd dd ?_;have q:=(rel.val k).isSome_eq;rw [Option.isSome_map] at q;rw [<- q,<- l];exact h _ (I.tok _)
theorem a2y{h':Heap}{t':Nat}{ob:HO}(I:Inv X pins σ H s)(mu:Mut (H a))(hs:Heap.SameBut a s.heap h')(he:∃ q,h'.get? a=some q)(new:ObjOk X.prog X.w (upd H a ob) h' a ob) :
  Inv X pins σ (upd H a ob) { s with heap:=h',toks:=t' } :=
 I.write (x:=a) (e:=a) mu (.inl rfl) (fun b q hb z=>(hs.2 b hb).trans z) he new
theorem b5W{P:Program}{w:World}{H':Hp}{h':Heap}{kvs:List (Key×V)}{vs:List (Key×Value)}(z:kvs.length <= sizeLine)(hd:(a == sysModules)=false)(rel:KV kvs vs)(dd:h'.DictOf (o7 P w) a vs) :
  ObjOk P w H' h' a (.dK kvs):=⟨z,hd,vs,rel,dd⟩
theorem a6i{H':Hp}{Q:Unit->Shared->Prop}(hu:A.units + 1 < cLine)(I:Inv X pins σ H s)(g:DPut H a y v H')(ry:RelV y u)(rv:RelV v r)(h:∀ s',Inv X pins σ H' s'->Q () s') :
  wpAny (model X.prog X.w) A (setItem (.ref a) u r) Q E s:=by
 rcases g with ⟨kvs,k,e,ey,l,eH⟩ | ⟨kvs,k,b,e,ey,eb,l,eH⟩
 ·subst ey eH;obtain ⟨z,hd,vs,rel,dd⟩:=b9x I.hok e;have hz:vs.length <= sizeLine:=by rw [<- rel.length];exact z
  have hl:(M4 kvs k v).length <= sizeLine:=by have:=N6 kvs k v;omega
  refine wpAny_setItem_pairs (hsz:=hz) (Y2 ry) dd fun h' dd' hs=>h _ ?_;have he:∃ q,h'.get? a=some q:=let ⟨q,_,_,hq,_⟩:=dd';⟨q,hq⟩
  exact a2y I (by rw [e];exact True.intro) hs he (b5W hl hd (rel.put k rv) dd')
 ·subst ey eH
  cases (show u=Value.ref b from ry)
  obtain ⟨z,hd,xs,rel,dd⟩:=b4Y I.hok e;have hz:xs.length <= sizeLine:=by rw [<- Paired.length rel];exact z
  have hl:(M4 kvs k v).length <= sizeLine:=by have:=N6 kvs k v;omega
  refine wpAny_setItem_heap (hsz:=hz) (tupleKind_room_in1 hu) (N8 I.hok eb) dd fun h' dd' hs=>h _ ?_;obtain ⟨q,es,ep,hq,h2,h3,h4,_,h5⟩:=dd';refine a2y I (by rw [e];exact True.intro) hs ⟨q,hq⟩ ⟨hl,hd,_,(rel.put k eb rv).keeps fun c ys ec=>?_,q,es,ep,hq,h2,h3,h4,h5⟩;rw [k6 (a7r ec e (fun z=>nomatch z))];exact ec
end
section
variable {X:Cx} {pins:List (Addr×Obj)} {σ:St} {H:Hp} {s:Shared} {a:Addr} {kvs:List (Key×V)} {k:Key} {u:Value} {A:Around} {E:Value->Shared->Prop}
end
def b0b(i:Expr):Prop:=∀ ov iv,subscripted i false ov iv=operate [ov,iv] (getItem ov iv)
theorem a4N{prog:Program}{w:World}{A:Around}{E:Value->Shared->Prop}{s:Shared}{env:Env}{value slice:Expr}{pos:Pos}{T id:String}{Q:Value->Shared->Prop}
  (hl:typeLookup (.type T) "__getitem__" = pure (some (.builtin id))) (hs:b0b slice)
  (h:wpAny (model prog w) A (eval value env) (fun o s₁=>wpAny (model prog w) A (eval slice env) (fun i s₂=>s₂.TypeIs o T/\wpAny (model prog w) A (getItem o i) Q E s₂) E s₁) E s) :
  wpAny (model prog w) A (eval (.Subscript value slice pos) env) Q E s:=by
 refine Subscript_ (wpAny_mono h (fun o s₁ h₁=>wpAny_mono h₁ (fun i s₂ h₂=>?_) fun _ _ x=>x) fun _ _ x=>x);obtain ⟨hT,h₂⟩:=h₂;unfold subscriptTail;refine wpAny_bind ?_;rw [getitemInPython_of_ne hT.not_modules];refine wpAny_bind (wpAny_specialOf hT hl ?_)
 have fin:wpAny (model prog w) A (subscripted slice false o i) (fun r s₃=>wpAny (model prog w) A (letTemporaryGo value o r >>= fun _=>pure r) Q E s₃) E s₂:=by
  rw [hs o i];exact wpAny_operating (wpAny_mono h₂ (fun r s₃ h₃=>wpAny_bind (wpAny_letTemporaryGo (wpAny_pure h₃))) fun _ _ x=>x)
 first
  |exact wpAny_pure (wpAny_bind fin)
  |exact wpAny_bind (wpAny_pure (wpAny_bind fin))
  |exact wpAny_bind fin
theorem a3x{X:Cx}{pins:List (Addr×Obj)}{σ:St}{H:Hp}{s:Shared}{a:Addr}{y:V}{o:Option V}(I:Inv X pins σ H s)(g:Y7 H a y o):s.TypeIs (.ref a) "dict":=by
 rcases g with ⟨kvs,k,e,_,_⟩ | ⟨kvs,k,b,e,_,_,_⟩
 ·obtain ⟨_,_,vs,_,dd⟩:=Y5 I.hok e;exact dd.typeIs
 ·obtain ⟨_,_,xs,_,dd⟩:=X5 I.hok e;exact dd.typeIs
def c0m(td ty:TE):TE:=fun σ H Q=>td σ H fun x H1=>ty σ H1 fun y H2=>∃ a v,x = .ref a/\Y7 H2 a y (some v)/\Q v H2
def c0O(td ty tv:TE):TS:=fun D σ H=>tv σ H fun v H1=>td σ H1 fun x H2=>ty σ H2 fun y H3=>∃ a H4,x = .ref a/\DPut H3 a y v H4/\D.nx σ H4
section
variable {X:Cx} {o i e value:Expr} {pos pos' tpos:Pos} {td ty tv:TE}
theorem b3D(hu:X.A.units + 1 < cLine)(ho:PE X o td)(hi:PE X i ty)(hs:b0b i):PE X (.Subscript o i pos) (c0m td ty):=by
 intro pins s σ H Q I h;refine a4N PySem.F.slot_dict_getitem.lookup hs (thn (ho pins s σ H _ I h) fun u s1 ⟨x,H1,I1,rx,q1⟩=>thn (hi pins s1 σ H1 _ I1 q1) fun iv s2 zz0=>?_);obtain ⟨y,H2,I2,ry,a,v,ex,g,q2⟩:=zz0;subst ex
 obtain rfl:u=Value.ref a:=rx
 exact ⟨a3x I2 g,a6G hu I2 g ry fun w' s3 I3 rw'=>⟨v,H2,I3,rw',q2⟩⟩
theorem b1T(hu:X.A.units + 1 < cLine)(ho:PE X o td)(hi:PE X i ty)(hv:PE X value tv)(hs:swapsWith value (some (.Subscript o i pos')) pos.line X.env=pure false) :
  PS X (.Assign [.Subscript o i pos'] value pos) (c0O td ty tv):=by
 intro pins s σ H D I h;refine wpAny_Assign_Subscript (thn (hv pins s σ H _ I h) fun r s1 ⟨v,H1,I1,rv,q1⟩=>thn (ho pins s1 σ H1 _ I1 q1) fun u s2 ⟨x,H2,I2,rx,q2⟩=>thn (hi pins s2 σ H2 _ I2 q2) fun iv s3 zz0=>?_) hs;obtain ⟨y,H3,I3,ry,a,H4,ex,g,q3⟩:=zz0;subst ex
 obtain rfl:u=Value.ref a:=rx
 exact a6i hu I3 g ry rv fun s4 I4=>⟨σ,H4,I4,q3⟩
end
theorem a9j{P:Program}{w:World}{H:Hp}(h:Heap)(hb:sysModules < h.objs.size):ObjOk P w H (h.push { cls:=.type "dict",data:=.dict #[] }) h.objs.size (.dT []) :=
 ⟨Nat.zero_le _,beq_eq_false_iff_ne.mpr (Ne.symm (Nat.ne_of_lt hb)),[],.nil,_,#[],0,Heap.get?_push_size _ rfl,⟨rfl,rfl,rfl⟩,rfl,rfl,List.nodup_nil⟩
def b8J:TE:=fun _ H Q=>∀ p,H p=none->Q (.ref p) (upd H p (.dT []))
section
variable {X:Cx} {pos:Pos}
theorem b0P:PE X (.Dict [] [] pos) b8J:=fun pins s σ H Q I h =>
 wpAny_Dict_empty ⟨.ref s.heap.objs.size,_,I.laid (a:=s.heap.objs.size) (o:=.dT []) (t':=s.toks) (fun _ _ q=>Heap.get?_push_of_some _ q) (Nat.le_refl _) (a9j s.heap I.big),rfl,h _ (I.hok.fresh (Nat.le_refl _))⟩
end
structure M1(X:Cx)(o:Expr)(m:Str)(apos:Pos)(e:Expr)(cpos:Pos):Prop where
 base:attributeBase o m X.env (eval o X.env)=eval o X.env
 few:((backTo cpos (starEach [e] X.env)).all (fun x=>!x.1) && (backToKw cpos (keywordEach [] X.env)).all (fun x=>x.1.isSome)
  && decide (([e]:List Expr).length + ([]:List Keyword).length + (if ([]:List Keyword).isEmpty then 0 else 1) < 30))=true
 line:(apos.endLine == cpos.line)=true
 trees:backTo cpos (starEach [e] X.env)=[(false,eval e X.env)]
structure M2(X:Cx)(o:Expr)(m:Str)(apos:Pos)(e f:Expr)(cpos:Pos):Prop where
 base:attributeBase o m X.env (eval o X.env)=eval o X.env
 few:((backTo cpos (starEach [e,f] X.env)).all (fun x=>!x.1) && (backToKw cpos (keywordEach [] X.env)).all (fun x=>x.1.isSome)
  && decide (([e,f]:List Expr).length + ([]:List Keyword).length + (if ([]:List Keyword).isEmpty then 0 else 1) < 30))=true
 line:(apos.endLine == cpos.line)=true
 trees:backTo cpos (starEach [e,f] X.env)=[(false,eval e X.env),(false,eval f X.env)]
def IsD(H:Hp)(a:Addr):Prop:=(∃ kvs,Rd H a (.dK kvs))\/∃ kvs,Rd H a (.dT kvs)
theorem a4p{X:Cx}{pins:List (Addr×Obj)}{σ:St}{H:Hp}{s:Shared}{a:Addr}(I:Inv X pins σ H s)(d:IsD H a) :
  s.TypeIs (.ref a) "dict"/\(∀ b,Value.ref a = .ref b->∃ ob,s.heap.get? b=some ob/\ob.dict=none)/\(a == sysModules)=false:=by
 rcases d with ⟨kvs,e⟩ | ⟨kvs,e⟩
 ·obtain ⟨_,hd,vs,_,dd⟩:=Y5 I.hok e;refine ⟨dd.typeIs,fun b q=>?_,hd⟩;cases q;obtain ⟨ob,_,_,h1,h2,_⟩:=dd;exact ⟨ob,h1,h2.2.1⟩
 ·obtain ⟨_,hd,xs,_,dd⟩:=X5 I.hok e;refine ⟨dd.typeIs,fun b q=>?_,hd⟩;cases q;obtain ⟨ob,_,_,h1,h2,_⟩:=dd;exact ⟨ob,h1,h2.2.1⟩
section
variable {X:Cx} {pins:List (Addr×Obj)} {σ:St} {H:Hp} {s:Shared} {a:Addr} {y d:V} {u r:Value} {o:Option V} {A:Around} {E:Value->Shared->Prop}
theorem b6A{Q:Value->Shared->Prop}(hu:A.units + 1 < cLine)(I:Inv X pins σ H s)(g:Y7 H a y o)(ry:RelV y u)(h:∀ w' s',Inv X pins σ H s'->RelV (o.getD .non) w'->Q w' s') :
  wpAny (model X.prog X.w) A (call (.builtin "dict.get") [.ref a,u]) Q E s:=by
 rcases g with ⟨kvs,k,e,ey,l⟩ | ⟨kvs,k,b,e,ey,eb,l⟩
 ·subst ey;obtain ⟨z,hd,vs,rel,dd⟩:=Y5 I.hok e;refine call_meetsIn PySem.F.slot_dict_get dd.typeIs PySem.F.entry_dict_get (PySem.F.args_dict_get_2 _ _) (meets_dict_get (o7 X.prog X.w) a (Y2 ry) hd) ⟨_,dd.mapOf,h _ _ (I.tok _) ?_⟩;rw [l];exact (rel.val k).getD rfl
 ·subst ey
  cases (show u=Value.ref b from ry)
  obtain ⟨z,hd,xs,rel,dd⟩:=X5 I.hok e;refine call_meetsIn PySem.F.slot_dict_get dd.typeIs PySem.F.entry_dict_get (PySem.F.args_dict_get_2 _ _) (meetsH_dict_get (tupleKind (o7 X.prog X.w)) a b hd) ⟨tupleKind_room_in1 hu,k,xs,N8 I.hok eb,dd,h _ _ (I.tok _) ?_⟩;rw [l];exact (rel.val k).getD rfl
theorem b8c{Q:Value->Shared->Prop}(hu:A.units + 1 < cLine)(I:Inv X pins σ H s)(g:Y7 H a y o)(ry:RelV y u)(rd:RelV d r)(h:∀ w' s',Inv X pins σ H s'->RelV (o.getD d) w'->Q w' s') :
  wpAny (model X.prog X.w) A (call (.builtin "dict.get") [.ref a,u,r]) Q E s:=by
 rcases g with ⟨kvs,k,e,ey,l⟩ | ⟨kvs,k,b,e,ey,eb,l⟩
 ·subst ey;obtain ⟨z,hd,vs,rel,dd⟩:=Y5 I.hok e;refine call_meetsIn PySem.F.slot_dict_get dd.typeIs PySem.F.entry_dict_get (PySem.F.args_dict_get_3 _ _ _) (meets_dict_get_default (o7 X.prog X.w) a (Y2 ry) hd r) ⟨_,dd.mapOf,h _ _ (I.tok _) ?_⟩;rw [l];exact (rel.val k).getD rd
 ·subst ey
  cases (show u=Value.ref b from ry)
  obtain ⟨z,hd,xs,rel,dd⟩:=X5 I.hok e;refine call_meetsIn PySem.F.slot_dict_get dd.typeIs PySem.F.entry_dict_get (PySem.F.args_dict_get_3 _ _ _) (meetsH_dict_get_default (tupleKind (o7 X.prog X.w)) a b hd r) ⟨tupleKind_room_in1 hu,k,xs,N8 I.hok eb,dd,h _ _ (I.tok _) ?_⟩;rw [l];exact (rel.val k).getD rd
end
def b6r(td ty:TE):TE:=fun σ H Q=>td σ H fun x H1=>∃ a,x = .ref a/\IsD H1 a/\ty σ H1 fun y H2=>∃ o,Y7 H2 a y o/\Q (o.getD .non) H2
def b7y(td ty tx:TE):TE:=fun σ H Q=>td σ H fun x H1=>∃ a,x = .ref a/\IsD H1 a/\ty σ H1 fun y H2=>tx σ H2 fun z H3=>∃ o,Y7 H3 a y o/\Q (o.getD z) H3
section
variable {X:Cx} {o e f:Expr} {apos cpos:Pos} {td ty tx:TE}
theorem a8m(hu:X.A.units + 1 < cLine)(ho:PE X o td)(he:PE X e ty)(m:M1 X o "get" apos e cpos):PE X (.Call (.Attribute o "get" apos) [e] [] cpos) (b6r td ty):=by
 intro pins s σ H Q I h;refine wpAny_Call_method m.base m.few m.line PySem.F.plainAttrs_dict PySem.F.slot_dict_get PySem.F.type_dict_get (thn (ho pins s σ H _ I h) fun u s1 zz0=>?_);obtain ⟨x,H1,I1,rx,a,ex,d,q1⟩:=zz0;subst ex
 obtain rfl:u=Value.ref a:=rx
 obtain ⟨t1,t2,_⟩:=a4p I1 d;refine ⟨t1,t2,?_⟩;rw [m.trees];refine Calls.callWith_builtin rfl (Calls.evalArgs_plain (Calls.spliced_cons (thn (he pins s1 σ H1 _ I1 q1) fun iv s2 ⟨y,H2,I2,ry,ov,g,q2⟩=>Calls.spliced_nil ?_)));exact b6A hu I2 g ry fun w' s3 I3 rw'=>⟨_,H2,I3,rw',q2⟩
theorem a7f(hu:X.A.units + 1 < cLine)(ho:PE X o td)(he:PE X e ty)(hf:PE X f tx)(m:M2 X o "get" apos e f cpos):PE X (.Call (.Attribute o "get" apos) [e,f] [] cpos) (b7y td ty tx):=by
 intro pins s σ H Q I h;refine wpAny_Call_method m.base m.few m.line PySem.F.plainAttrs_dict PySem.F.slot_dict_get PySem.F.type_dict_get (thn (ho pins s σ H _ I h) fun u s1 zz0=>?_);obtain ⟨x,H1,I1,rx,a,ex,d,q1⟩:=zz0;subst ex
 obtain rfl:u=Value.ref a:=rx
 obtain ⟨t1,t2,_⟩:=a4p I1 d;refine ⟨t1,t2,?_⟩;rw [m.trees]
 refine Calls.callWith_builtin rfl (Calls.evalArgs_plain (Calls.spliced_cons (thn (he pins s1 σ H1 _ I1 q1) fun iv s2 ⟨y,H2,I2,ry,q2⟩ =>
  Calls.spliced_cons (thn (hf pins s2 σ H2 _ I2 q2) fun fv s3 ⟨z,H3,I3,rz,ov,g,q3⟩=>Calls.spliced_nil ?_))))
 exact b8c hu I3 g ry rz fun w' s4 I4 rw'=>⟨_,H3,I4,rw',q3⟩
end
section
variable {X:Cx} {pins:List (Addr×Obj)} {σ:St} {H:Hp} {s:Shared} {a:Addr} {kvs:List (Key×V)} {A:Around} {E:Value->Shared->Prop}
end
section
variable {X:Cx} {pins:List (Addr×Obj)} {σ:St} {H:Hp} {s:Shared} {a:Addr} {y:V} {u:Value} {A:Around} {E:Value->Shared->Prop}
end
end L2
namespace HT
open PySem PyProof.Rows
def lexLt:List Int->List Int->Bool
 |[],[]=>false
 |[],_ :: _=>true
 |_ :: _,[]=>false
 |x :: xs,y :: ys=>if x=y then lexLt xs ys else decide (x < y)
theorem lexLt_cons(x y:Int)(xs ys:List Int):lexLt (x :: xs) (y :: ys)=if x=y then lexLt xs ys else decide (x < y):=rfl
theorem lexLt_nil_nil:lexLt [] []=false:=rfl
theorem a0y(y:Int)(ys:List Int):lexLt [] (y :: ys)=true:=rfl
theorem a0n(x:Int)(xs:List Int):lexLt (x :: xs) []=false:=rfl
theorem a7L(A:Around)(s:Shared)(a:Int)(t:Tok)(c:Int)(u:Tok):∃ e,SeqAt.EqAt A s (.int a t) (.int c u) e/\(e=true ↔ a=c) :=
 ⟨(a == c),SeqAt.EqAt.int_int a t c u,by simp⟩
theorem a8x(A:Around)(s:Shared)(a:Int)(t:Tok)(c:Int)(u:Tok)(prog:Program)(w:World)(E:Value->Shared->Prop)(Q:Value->Shared->Prop)(h:Q (.bool (decide (a < c))) s) :
  wpAny (model prog w) A (richCompare .Lt (.int a t) (.int c u)) Q E s :=
 (PyProof.Rows.lt_int h:wpAny (model prog w) A (compareOp .Lt (.int a t) (.int c u)) Q E s)
section
open PySem.SeqAt
open PySem.AutoSeq1 (wpAny_loadPart')
open PySem.MeetsSeq PySem.MeetsSeq2 PySem.MeetsSeq3
theorem a0Z(l b:Addr)(items items2:Array Value)(n n2:Nat)(dd dd2:Option Addr)(sl sl2:Array (Option Value))(ns ms:List Int)(hi:IntsAre items.toList ns)(hj:IntsAre items2.toList ms) :
  Meets (Builtin.«tuple.__lt__» ⟨[.ref l,.ref b],[]⟩)
   (fun _ R s=>s.heap.get? l=some { cls:=.type "tuple",dict:=dd,data:=.seq items n,slots:=sl }/\s.heap.get? b=some { cls:=.type "tuple",dict:=dd2,data:=.seq items2 n2,slots:=sl2 } /\
    R (.ok (.ret (.bool (lexLt ns ms)))) s) :=
 .of_wp fun prog w A R s h=>by
  obtain ⟨hp,g,d,tk,os⟩:=s;obtain ⟨hl,hb,h⟩:=h;have f2:=AutoSeq1.sub_tuple_tuple;have z1:items.size=ns.length:=by rw [<- hi.length];simp
  have z2:items2.size=ms.length:=by rw [<- hj.length];simp
  wp_walk using wpAny_loadPart' hl,wpAny_loadPart' hb,wpAny_forIn_list _ (fun rest b s'=>b.1=none/\s'=⟨hp,g,d,tk,os⟩/\∃ (vs ws:List Value) (ns' ms':List Int),rest=vs.zip ws /\
   IntsAre vs ns'/\IntsAre ws ms'/\ns'.length + items2.size=ms'.length + items.size/\R (.ok (.ret (.bool (lexLt ns' ms')))) ⟨hp,g,d,tk,os⟩) _
  case turn =>
   rintro ⟨y,x⟩ rest b s' ⟨hb',rfl,vs,ws,ns',ms',hz,hvi,hwi,hlen,hR⟩
   cases hvi with
   |nil=>rw [List.zip_nil_left] at hz;cases hz
   |cons a t hvi' =>
    cases hwi with
    |nil=>rw [List.zip_nil_right] at hz;cases hz
    |cons c u hwi' =>
     rw [List.zip_cons_cons] at hz
     injection hz with hyx hrest
     injection hyx with hy hx
     subst hy hx;rw [lexLt_cons] at hR;simp only [List.length_cons] at hlen;obtain ⟨e,he,hiff⟩:=a7L A.in1 ⟨hp,g,d,tk,os⟩ a t c u;refine wpAny_bind (he prog w _ _ ?_)
     cases e with
     |true =>
      rw [if_pos (hiff.mp rfl)] at hR
      wp_walk
      exact ⟨rfl,rfl,_,_,_,_,hrest,hvi',hwi',by omega,hR⟩
     |false =>
      rw [if_neg (fun q=>absurd (hiff.mpr q) Bool.false_ne_true)] at hR;have hri:=a8x A.in1 ⟨hp,g,d,tk,os⟩ a t c u prog w
      wp_walk using hri
      exact ⟨_,rfl,by simpa using hR⟩
  case fin =>
   rintro ⟨b1,b2⟩ s' ⟨hb',rfl,vs,ws,ns',ms',hz,hvi,hwi,hlen,hR⟩
   simp only at hb'
   subst hb'
   have hv:lexLt ns' ms'=decide (items.size < items2.size):=by
    cases hvi with
    |nil =>
     cases hwi with
     |nil =>
      simp only [List.length_nil] at hlen;rw [lexLt_nil_nil];exact (decide_eq_false (by omega)).symm
     |cons c u hw =>
      simp only [List.length_nil,List.length_cons] at hlen;rw [a0y];exact (decide_eq_true (by omega)).symm
    |cons a t hv =>
     cases hwi with
     |nil =>
      simp only [List.length_nil,List.length_cons] at hlen;rw [a0n];exact (decide_eq_false (by omega)).symm
     |cons c u hw =>
      rw [List.zip_cons_cons] at hz;cases hz
   rw [hv] at hR
   wp_walk
   exact ⟨_,rfl,by simpa [Builtin.Tuple.tupleCompareSizes] using hR⟩
  case h =>
   exact ⟨rfl,rfl,items.toList,items2.toList,ns,ms,rfl,hi,hj,by omega,h⟩
end
section
variable {prog:Program} {w:World} {A:Around} {E:Value->Shared->Prop} {s:Shared}
theorem lt_tupInts{l b:Addr}{items items2:Array Value}{ns ms:List Int}{Q:Value->Shared->Prop}(hl:IsTup s.heap l items)(hb:IsTup s.heap b items2)(hi:IntsAre items.toList ns)(hj:IntsAre items2.toList ms)
  (hu:A.units < cLine) (h:Q (.bool (lexLt ns ms)) s):wpAny (model prog w) A (compareOp .Lt (.ref l) (.ref b)) Q E s:=by
 obtain ⟨⟨cls,dd,data,sl⟩,ho,hc,n,hd⟩:=id hl;obtain ⟨⟨cls2,dd2,data2,sl2⟩,ho2,hc2,n2,hd2⟩:=id hb
 simp only at hc hd hc2 hd2
 subst hc hd hc2 hd2
 exact richCompare_meets_room (op:=.Lt) ⟨_,ho,rfl⟩ ⟨_,ho2,rfl⟩ PySem.F.slot_tuple_lt PySem.F.entry_tuple_lt (PySem.F.args_tuple_lt_2 _ _) (a0Z l b items items2 n n2 dd dd2 sl sl2 ns ms hi hj)
  ⟨ho,ho2,show Value.bool (lexLt ns ms) ≠ Value.notImplemented/\Q (.bool (lexLt ns ms)) s from ⟨(fun x=>nomatch x),h⟩⟩ hu
theorem cat_tup{t b:Addr}{vs ws:List Value}{Q:Value->Shared->Prop}(ht:IsTup s.heap t vs.toArray)(hb:IsTup s.heap b ws.toArray)(hv:vs ≠ [])
  (h1:ws=[]->Q (.ref t) s) (h2:ws ≠ []->Q (.ref s.heap.objs.size) { s with heap:=s.heap.push { cls:=.type "tuple",data:=.seq (vs ++ ws).toArray } })
  (hsz:vs.length + ws.length <= sizeLine):wpAny (model prog w) A (binaryOp .Add (.ref t) (.ref b)) Q E s:=by
 obtain ⟨⟨cls,dd,data,sl⟩,ho,hc,n,hd⟩:=id ht;obtain ⟨⟨cls2,dd2,data2,sl2⟩,ho2,hc2,n2,hd2⟩:=id hb
 simp only at hc hd hc2 hd2
 subst hc hd hc2 hd2;have e:vs.toArray ++ ws.toArray=(vs ++ ws).toArray:=by simp
 by_cases hw:ws=[]
 ·exact concat_meets ⟨_,ho,rfl⟩ ⟨_,ho2,rfl⟩ noFill_tuple_add seq_tuple_add PySem.F.slot_tuple_add PySem.F.entry_tuple_add (PySem.F.args_tuple_add_2 _ _)
   (tuple_addW1 t b vs.toArray ws.toArray n n2 dd dd2 sl sl2 (by simpa using hv) (by simp [hw])) ⟨ho,ho2,h1 hw⟩
 ·refine concat_meets ⟨_,ho,rfl⟩ ⟨_,ho2,rfl⟩ noFill_tuple_add seq_tuple_add PySem.F.slot_tuple_add PySem.F.entry_tuple_add (PySem.F.args_tuple_add_2 _ _)
   (tuple_addW2 t b vs.toArray ws.toArray n n2 dd dd2 sl sl2 (by simpa using hv) (by simpa using hw) (by rw [List.size_toArray,List.size_toArray];exact hsz)) ⟨ho,ho2,?_⟩
  rw [e];exact h2 hw
def sIx(n d:Nat):Option Int->Nat
 |none=>d
 |some v=>if v < 0 then (v + (n:Int)).toNat else min v.toNat n
theorem b8f(n d:Nat)(hd:d <= n)(o:Option Int):sIx n d o <= n:=by
 cases o with
 |none=>exact hd
 |some v =>
  show (if v < 0 then (v + (n:Int)).toNat else min v.toNat n) <= n
  by_cases hv:v < 0
  ·rw [if_pos hv];omega
  ·rw [if_neg hv];exact Nat.min_le_right _ _
theorem a4S(v:Int)(n d:Nat):(if v < 0 then max (v + (n:Int)) 0 else min v (n:Int))=((sIx n d (some v):Nat):Int):=by
 show (if v < 0 then max (v + (n:Int)) 0 else min v (n:Int))=(((if v < 0 then (v + (n:Int)).toNat else min v.toNat n):Nat):Int)
 by_cases hv:v < 0
 ·simp only [if_pos hv];omega
 ·simp only [if_neg hv];omega
theorem a4g(lo hi:Option Int)(n:Nat):Builtin.Slice.sliceAdjust lo hi 1 (n:Int)=(((sIx n 0 lo:Nat):Int),((sIx n n hi:Nat):Int)):=by
 have h1:¬ ((1:Int) < 0):=by omega
 unfold Builtin.Slice.sliceAdjust;simp only [h1,if_false];refine Prod.ext ?_ ?_
 ·cases lo with
  |none=>rfl
  |some v=>exact a4S v n 0
 ·cases hi with
  |none=>rfl
  |some v=>exact a4S v n n
theorem a4a(i j:Nat):Builtin.Slice.slicePlaces (i:Int) (j:Int) 1=j - i:=by
 unfold Builtin.Slice.slicePlaces;have h1:(1:Int) > 0:=by omega
 simp only [h1,if_true,Int.ediv_one]
 split <;> omega
theorem a0L{v:Value}{o:Option Int}{Q:Option Int->Shared->Prop}(p:IsPart v o)(h:Q o s):wpAny (model prog w) A (Builtin.Slice.slicePartIndex v) Q E s:=by
 cases p with
 |none=>exact slicePart_none h
 |int i t=>exact slicePart_int h
theorem J6{sl:Addr}{vl vu:Value}{lo hi:Option Int}{n:Nat}{Q:Int×Int×Nat->Shared->Prop}(hs:s.heap.IsSliceOf sl vl vu .none)(pl:IsPart vl lo)(pu:IsPart vu hi)
  (h:Q (((sIx n 0 lo:Nat):Int),1,sIx n n hi - sIx n 0 lo) s):wpAny (model prog w) A (Builtin.Slice.sliceApplied (.ref sl) (pure (n:Int))) Q E s:=by
 obtain ⟨os,hos,hcs,hds⟩:=id hs;unfold Builtin.Slice.sliceApplied Builtin.Slice.sliceFields;refine wpAny_bind (wpAny_bind (wpAny_field hos hds (x:=vl) rfl (wpAny_bind (wpAny_field hos hds (x:=vu) rfl (wpAny_bind (wpAny_field hos hds (x:=.none) rfl (wpAny_pure ?_)))))));refine wpAny_bind (slicePart_none ?_);show wpAny _ _ (if ((1:Int) == 0)=true then _ else _) _ _ s;rw [if_neg (by decide)];refine wpAny_bind (a0L pl (wpAny_bind (a0L pu (wpAny_bind (wpAny_pure ?_)))));show wpAny _ _ (match Builtin.Slice.sliceAdjust lo hi 1 (n:Int) with | (lo,hi)=>pure (lo,(1:Int),Builtin.Slice.slicePlaces lo hi 1)) _ _ s;rw [a4g lo hi n];show wpAny _ _ (pure (((sIx n 0 lo:Nat):Int),(1:Int),Builtin.Slice.slicePlaces ((sIx n 0 lo:Nat):Int) ((sIx n n hi:Nat):Int) 1)) _ _ s;rw [a4a];exact wpAny_pure h
theorem a8R(xs:Array Value)(i k:Nat):((List.range k).filterMap fun (m:Nat)=>xs[((i:Int) + (m:Int) * 1).toNat]?).toArray=((xs.toList.drop i).take k).toArray:=by
 have e:(fun (m:Nat)=>xs[((i:Int) + (m:Int) * 1).toNat]?)=fun m=>xs[i + m]?:=by
  funext m
  have:((i:Int) + (m:Int) * 1).toNat=i + m:=by omega
  rw [this]
 rw [e]
 have:=pick_run xs i k
 rw [List.filterMap_map] at this;have e2:((fun x=>xs[x]?) ∘ fun x=>i + x)=fun m=>xs[i + m]?:=rfl;rw [e2] at this;rw [this]
theorem getItem_tuple_cut{t sl:Addr}{items:Array Value}{vl vu:Value}{lo hi:Option Int}{Q:Value->Shared->Prop}(ht:IsTup s.heap t items)(hs:s.heap.IsSliceOf sl vl vu .none)(pl:IsPart vl lo)(pu:IsPart vu hi)
  (hw:¬ (sIx items.size 0 lo=0/\sIx items.size items.size hi=items.size))
  (h:Q (.ref s.heap.objs.size) { s with heap:=s.heap.push { cls:=.type "tuple",data:=.seq ((items.toList.drop (sIx items.size 0 lo)).take (sIx items.size items.size hi - sIx items.size 0 lo)).toArray } })
  (hsz:items.size <= sizeLine):wpAny (model prog w) A (getItem (.ref t) (.ref sl)) Q E s:=by
 have htake:sizeOk (.seq ((items.toList.drop (sIx items.size 0 lo)).take (sIx items.size items.size hi - sIx items.size 0 lo)).toArray):=by
  show ((items.toList.drop (sIx items.size 0 lo)).take (sIx items.size items.size hi - sIx items.size 0 lo)).toArray.size <= sizeLine;rw [List.size_toArray,List.length_take,List.length_drop,Array.length_toList];omega
 have hj:sIx items.size items.size hi <= items.size:=b8f _ _ (Nat.le_refl _) hi;obtain ⟨os,hos,hcs,hds⟩:=id hs;have hTs:s.TypeIs (.ref sl) "slice":=⟨os,hos,hcs⟩
 unfold getItem
 try with_reducible refine wpAny_holding ?_
 first | refine wpAny_bind (wpAny_pure ?_) | skip
 refine wpAny_bind (wpAny_sequenceKey ht.typeIs (by decide) ?_)
 refine wpAny_bind (wpAny_callSpecial?_slot (name:=Str.ofString "__getitem__") ht.typeIs PyProof.Rows.slot_tuple_getitem
  (wpAny_call_entry PyProof.Rows.slot_tuple_getitem ht.typeIs entry_tuple_getitem ?_ (args_tuple_getitem _ _)))
 show wpAny _ _ (Builtin.Tuple.tupleItemsOf (.ref t) >>= _) _ _ s;refine wpAny_bind (tupleItemsOf_ ht ?_);refine wpAny_bind (wpAny_typeOf hTs ?_);rw [if_pos (by decide)];refine wpAny_bind (J6 hs pl pu ?_)
 have hno:¬ ((((sIx items.size 0 lo:Nat):Int) == 0 && (1:Int) == 1 && (sIx items.size items.size hi - sIx items.size 0 lo) == items.size)=true):=by
  intro q;rw [Bool.and_eq_true,Bool.and_eq_true] at q;have q1:((sIx items.size 0 lo:Nat):Int)=0:=eq_of_beq q.1.1;have q2:sIx items.size items.size hi - sIx items.size 0 lo=items.size:=eq_of_beq q.2;exact hw ⟨by omega,by omega⟩
 show wpAny _ _ (if (((sIx items.size 0 lo:Nat):Int) == 0 && (1:Int) == 1 && (sIx items.size items.size hi - sIx items.size 0 lo) == items.size)=true then _ else _) _ _ s;rw [if_neg hno,a8R]
 first
  |exact wpAny_bind (m:=Builtin.Tuple.tupleExact _) (wpAny_newObj_type (wpAny_pure ⟨_,rfl,wpAny_pure h⟩) htake)
  |exact wpAny_bind (m:=Builtin.Tuple.tupleExact _) (wpAny_newObj_type (wpAny_bind (wpAny_pure (wpAny_pure ⟨_,rfl,wpAny_pure h⟩))) htake)
  |exact wpAny_bind (wpAny_bind (m:=Builtin.Tuple.tupleExact _) (wpAny_newObj_type (wpAny_pure (wpAny_pure ⟨_,rfl,wpAny_pure h⟩)) htake))
  |exact wpAny_bind (wpAny_bind (m:=Builtin.Tuple.tupleExact _) (wpAny_newObj_type (wpAny_pure ⟨_,rfl,wpAny_pure h⟩) htake))
end
end HT
namespace L2
open PySem PySem.Spec PyProof.Rows
abbrev TO:=St->Hp->(Option Int->Hp->Prop)->Prop
def PO(X:Cx)(e:Option Expr)(t:TO):Prop :=
 ∀ (pins:List (Addr×Obj)) (s:Shared) (σ:St) (H:Hp) (Q:Option Int->Hp->Prop),Inv X pins σ H s->t σ H Q ->
  wpAny (model X.prog X.w) X.A (evalPart e X.env) (fun u s'=>∃ o H',Inv X pins σ H' s'/\IsPart u o/\Q o H') X.xe s
def b4s:TO:=fun _ H Q=>Q none H
def c0b(t:TE):TO:=fun σ H Q=>t σ H fun x H1=>∃ i,x = .int i/\Q (some i) H1
theorem K9{ns:List Int}:∀ {us:List Value},Vals (ns.map V.int) us->IntsAre us ns:=by
 induction ns with
 |nil=>intro us r;rw [List.map_nil] at r;cases r;exact .nil
 |cons n ns ih =>
  intro us r;rw [List.map_cons] at r
  cases r with
  |cons r1 r2 =>
   obtain ⟨t,e⟩:=r1;subst e;exact .cons n t (ih r2)
section
variable {X:Cx} {e:Expr} {te:TE} {lo hi:Option Expr} {tl th:TO} {pos p2:Pos}
theorem b2q:PO X none b4s:=by
 intro pins s σ H Q I h;rw [evalPart_none];exact wpAny_pure ⟨none,H,I,.none,h⟩
theorem b3z(h:PE X e te):PO X (some e) (c0b te):=by
 intro pins s σ H Q I hw;rw [evalPart_some];refine thn (h pins s σ H _ I hw) fun u s1 zz0=>?_;obtain ⟨x,H1,I1,r1,q1⟩:=zz0;obtain ⟨i,rfl,q⟩:=q1;obtain ⟨t,rfl⟩:=r1;exact ⟨some i,H1,I1,.int i t,q⟩
def SlR(X:Cx)(r:V->Option Int->Option Int->Hp->VK->Prop):Prop :=
 ∀ (pins:List (Addr×Obj)) (s:Shared) (σ:St) (H:Hp) (x:V) (v vl vu:Value) (lo hi:Option Int) (sl:Addr) (Q:VK),Inv X pins σ H s->RelV x v->s.heap.IsSliceOf sl vl vu .none->IsPart vl lo->IsPart vu hi->r x lo hi H Q ->
  ∃ T id,typeLookup (.type T) "__getitem__" = pure (some (.builtin id))/\s.TypeIs v T/\wpAny (model X.prog X.w) X.A (getItem v (.ref sl)) (EP X pins σ Q) X.xe s
theorem SlR.or{r r':V->Option Int->Option Int->Hp->VK->Prop}(h:SlR X r)(h':SlR X r'):SlR X (fun x lo hi H Q=>r x lo hi H Q\/r' x lo hi H Q):=by
 intro pins s σ H x v vl vu lo hi sl Q I rx hs pl pu q
 rcases q with q | q
 ·exact h pins s σ H x v vl vu lo hi sl Q I rx hs pl pu q
 ·exact h' pins s σ H x v vl vu lo hi sl Q I rx hs pl pu q
def tSl(r:V->Option Int->Option Int->Hp->VK->Prop)(te:TE)(tl th:TO):TE:=fun σ H Q=>te σ H fun x H1=>tl σ H1 fun l H2=>th σ H2 fun u H3=>r x l u H3 Q
theorem a9k{r:V->Option Int->Option Int->Hp->VK->Prop}(hr:SlR X r)(he:PE X e te)(hl:PO X lo tl)(hu:PO X hi th):PE X (.Subscript e (.Slice lo hi none p2) pos) (tSl r te tl th):=by
 intro pins s σ H Q I h;refine Subscript_ (thn (he pins s σ H _ I h) fun v s1 zz0=>?_);obtain ⟨x,H1,I1,r1,q1⟩:=zz0;refine wpAny_Slice (thn (hl pins s1 σ H1 _ I1 q1) fun vl s2 ⟨l,H2,I2,pl,q2⟩=>thn (hu pins s2 σ H2 _ I2 q2) fun vu s3 zz0=>?_);obtain ⟨u,H3,I3,pu,q3⟩:=zz0;rw [evalPart_none];refine wpAny_pure ?_;have I4:Inv X pins σ H3 { s3 with heap:=s3.heap.push { cls:=.type "slice",data:=.fields #[vl,vu,.none] } }:=I3.kept (t':=s3.toks) fun b ob q=>Heap.get?_push_of_some _ q;obtain ⟨T,id,hT,ht,hg⟩:=hr pins { s3 with heap:=s3.heap.push { cls:=.type "slice",data:=.fields #[vl,vu,.none] } } σ H3 x v vl vu l u s3.heap.objs.size Q I4 r1 (Heap.IsSliceOf.new ..) pl pu q3;show wpAny (model X.prog X.w) X.A (subscriptTail e (.Slice lo hi none p2) v (.ref s3.heap.objs.size)) (EP X pins σ Q) X.xe { s3 with heap:=s3.heap.push { cls:=.type "slice",data:=.fields #[vl,vu,.none] } };exact tail_any (ops:=[.ref s3.heap.objs.size,v]) ht hT hg (by with_unfolding_all rfl)
def S4(xs:List V)(lo hi:Option Int):List V:=(xs.drop (HT.sIx xs.length 0 lo)).take (HT.sIx xs.length xs.length hi - HT.sIx xs.length 0 lo)
theorem X4(xs:List V)(lo hi:Option Int):(S4 xs lo hi).length <= xs.length:=by
 unfold S4;rw [List.length_take,List.length_drop];omega
def c1Z(K:PySem.W.Frag):V->Option Int->Option Int->Hp->VK->Prop:=fun x lo hi H Q=>∃ a xs,x = .ref a/\SqT K H a xs /\
 ¬ (HT.sIx xs.length 0 lo=0/\HT.sIx xs.length xs.length hi=xs.length)/\∀ p,H p=none->Q (.ref p) (upd H p (.tup (S4 xs lo hi)))
theorem b7D:SlR X (c1Z X.K):=by
 intro pins s σ H x v vl vu lo hi sl Q I rx hs pl pu h;obtain ⟨a,xs,rfl,hx,hw,q⟩:=h;cases rx;obtain ⟨its,r,ht,hz⟩:=I.tuple hx;have hlen:its.toArray.size=xs.length:=by rw [List.size_toArray];exact r.length.symm
 refine ⟨"tuple",_,PyProof.Rows.slot_tuple_getitem.lookup,ht.typeIs,?_⟩;refine HT.getItem_tuple_cut ht hs pl pu (by rw [hlen];exact hw) ?_ (by rw [hlen];exact hz);rw [hlen];refine ⟨.ref s.heap.objs.size,_,I.laid (t':=s.toks) (o:=.tup (S4 xs lo hi)) (fun b ob q=>Heap.get?_push_of_some _ q) (Nat.le_refl _) ?_,rfl,q _ (I.hok.fresh (Nat.le_refl _))⟩;exact ⟨Nat.le_trans (X4 xs lo hi) hz,_,(r.drop (HT.sIx xs.length 0 lo)).take (HT.sIx xs.length xs.length hi - HT.sIx xs.length 0 lo),IsTup.new _ _⟩
def c1M(K:PySem.W.Frag):R2:=fun x y H Q=>∃ a b ns ms,x = .ref a/\y = .ref b/\SqT K H a (ns.map V.int)/\SqT K H b (ms.map V.int)/\Q (.bl (HT.lexLt ns ms)) H
theorem b8w(hu:X.A.units < cLine):OpR X (compareOp .Lt) (c1M X.K):=by
 intro pins s σ H x y v u Q I rx ry h;obtain ⟨a,b,ns,ms,rfl,rfl,ha,hb,q⟩:=h;cases rx;cases ry;obtain ⟨its,r1,p1,_⟩:=I.tuple ha;obtain ⟨its2,r2,p2,_⟩:=I.tuple hb;have i1:IntsAre its.toArray.toList ns:=K9 r1;have i2:IntsAre its2.toArray.toList ms:=K9 r2;exact HT.lt_tupInts p1 p2 i1 i2 hu ⟨.bl (HT.lexLt ns ms),H,I,rfl,q⟩
def c0L(K:PySem.W.Frag):R2:=fun x y H Q=>∃ a b xs ys,x = .ref a/\y = .ref b/\SqT K H a xs/\SqT K H b ys/\xs ≠ []/\xs.length + ys.length <= sizeLine /\
 (ys=[]->Q (.ref a) H)/\(ys ≠ []->∀ p,H p=none->Q (.ref p) (upd H p (.tup (xs ++ ys))))
theorem Vals.nil_iff{xs:List V}{us:List Value}(r:Vals xs us):us=[] ↔ xs=[]:=by
 cases r with
 |nil=>simp
 |cons _ _=>simp
theorem b2u:OpR X (binaryOp .Add) (c0L X.K):=by
 intro pins s σ H x y v u Q I rx ry h;obtain ⟨a,b,xs,ys,rfl,rfl,ha,hb,hx,hz,q1,q2⟩:=h;cases rx;cases ry;obtain ⟨its,r1,p1,_⟩:=I.tuple ha;obtain ⟨its2,r2,p2,_⟩:=I.tuple hb;refine HT.cat_tup p1 p2 (fun z=>hx (r1.nil_iff.mp z)) (fun z=>⟨.ref a,H,I,rfl,q1 (r2.nil_iff.mp z)⟩) (fun z=>?_) (by rw [<- r1.length,<- r2.length];exact hz);refine ⟨.ref s.heap.objs.size,_,I.laid (t':=s.toks) (o:=.tup (xs ++ ys)) (fun b ob q=>Heap.get?_push_of_some _ q) (Nat.le_refl _) ?_,rfl,q2 (fun w=>z (r2.nil_iff.mpr w)) _ (I.hok.fresh (Nat.le_refl _))⟩;exact ⟨by rw [List.length_append];exact hz,_,r1.append r2,IsTup.new _ _⟩
end
end L2
namespace L2
open PySem PySem.Spec PyProof.Rows
def ixN(n:Nat)(i:Int):Option Nat:=if 0 <= i then (if i < n then some i.toNat else none) else if -(n:Int) <= i then some (i + n).toNat else none
def atI{α:Type}(xs:List α)(i:Int):Option α:=(ixN xs.length i).bind fun j=>xs[j]?
theorem a5a{n:Nat}{i:Int}{j:Nat}(h:ixN n i=some j):seqIndex? i n=some j/\j < n/\-(n:Int) <= i/\i < n:=by
 unfold ixN at h
 by_cases h0:0 <= i
 ·rw [if_pos h0] at h
  by_cases h1:i < n
  ·rw [if_pos h1] at h;have e:i.toNat=j:=Option.some.inj h;exact ⟨by rw [seqIndex_of h0 h1,e],by omega,by omega,h1⟩
  ·rw [if_neg h1] at h;cases h
 ·rw [if_neg h0] at h
  by_cases h1:-(n:Int) <= i
  ·rw [if_pos h1] at h;have e:(i + n).toNat=j:=Option.some.inj h;exact ⟨by rw [seqIndex_neg (by omega) h1,e],by omega,h1,by omega⟩
  ·rw [if_neg h1] at h;cases h
theorem a1O{α:Type}{xs:List α}{i:Int}{v:α}(h:atI xs i=some v):∃ j,seqIndex? i xs.length=some j/\xs[j]?=some v/\j < xs.length/\-(xs.length:Int) <= i/\i < xs.length:=by
 unfold atI at h
 cases e:ixN xs.length i with
 |none=>rw [e] at h;cases h
 |some j =>
  rw [e] at h;obtain ⟨h1,h2,h3,h4⟩:=a5a e;exact ⟨j,h1,h,h2,h3,h4⟩
def a4C(b:Expr):Prop:=∀ o i,subscripted b false o i=operate [o,i] (getItem o i)
def IxR(X:Cx)(r:R2):Prop :=
 ∀ (value slice:Expr) (pins:List (Addr×Obj)) (s:Shared) (σ:St) (H:Hp) (x y:V) (v u:Value) (Q:VK),Inv X pins σ H s->RelV x v->RelV y u->r x y H Q ->
  subscripted slice false v u=operate [v,u] (getItem v u)->wpAny (model X.prog X.w) X.A (subscriptTail value slice v u) (EP X pins σ Q) X.xe s
def MtR(X:Cx)(id:String)(r:V->List V->Hp->VK->Prop):Prop :=
 ∀ (pins:List (Addr×Obj)) (s:Shared) (σ:St) (H:Hp) (x:V) (xs:List V) (v:Value) (us:List Value) (Q:VK),Inv X pins σ H s->RelV x v->Vals xs us->r x xs H Q ->
  wpAny (model X.prog X.w) X.A (call (.builtin id) (v :: us)) (EP X pins σ Q) X.xe s
section
variable {X:Cx} {a b:Expr} {ta tb:TE} {pos:Pos}
theorem IxR.or{r r':R2}(h:IxR X r)(h':IxR X r'):IxR X (fun x y H Q=>r x y H Q\/r' x y H Q):=by
 intro value slice pins s σ H x y v u Q I rx ry q hs
 rcases q with q | q
 ·exact h value slice pins s σ H x y v u Q I rx ry q hs
 ·exact h' value slice pins s σ H x y v u Q I rx ry q hs
theorem b9o{r:R2}(hr:IxR X r)(ha:PE X a ta)(hb:PE X b tb)(hs:a4C b):PE X (.Subscript a b pos) (tOp r ta tb):=by
 intro pins s σ H Q I h;exact Subscript_ (b7e ha hb I h fun v u s2 x y H2 I2 rx ry q=>hr a b pins s2 σ H2 x y v u Q I2 rx ry q (hs _ _))
def c0K(K:PySem.W.Frag):R2:=fun x y H Q=>∃ p xs i v,x = .ref p/\y = .int i/\SqL K H p xs/\atI xs i=some v/\Q v H
def c0e(K:PySem.W.Frag):R2:=fun x y H Q=>∃ p xs i v,x = .ref p/\y = .int i/\SqT K H p xs/\atI xs i=some v/\Q v H
def c0W:R2:=fun x y H Q=>∃ z i c,x = .str z/\y = .int i/\z.length <= sizeLine/\atI z.cps.toList i=some c/\Q (.str ⟨#[c]⟩) H
theorem ix_list:IxR X (c0K X.K):=by
 intro value slice pins s σ H x y v u Q I rx ry h hs;obtain ⟨p,xs,i,z,rfl,rfl,hq,he,q⟩:=h;cases rx;obtain ⟨t,rfl⟩:=ry;obtain ⟨its,r,pl,hz⟩:=I.list hq;obtain ⟨j,h1,h2,h3,h4,h5⟩:=a1O he;obtain ⟨w,ew,rw'⟩:=r.get h2;have hl:=r.length;have hn:=W5;have fin:EP X pins σ Q w s:=⟨z,H,I,rw',q⟩
 by_cases h0:0 <= i
 ·have hj:i.toNat=j:=by
   rw [seqIndex_of h0 h5] at h1;exact Option.some.inj h1
  exact item_listR pl.isList h0 (by omega) (by rw [hj];simpa using ew) fin hs
 ·have hj:(i + (its.toArray.size:Int)).toNat=j:=by
   rw [seqIndex_neg (by omega) h4] at h1;rw [List.size_toArray,<- hl];exact Option.some.inj h1
  exact subscriptTail_builtinR (x:=w) pl.isList.typeIs slot_list_getitem.lookup
   (wpAny_getItem_list_neg (Q:=fun r s'=>r=w/\EP X pins σ Q r s') pl.isList (by omega) (by rw [List.size_toArray] <;> omega) (by omega) (by rw [hj];simpa using ew) ⟨rfl,fin⟩) hs
theorem ix_tup:IxR X (c0e X.K):=by
 intro value slice pins s σ H x y v u Q I rx ry h hs;obtain ⟨p,xs,i,z,rfl,rfl,hq,he,q⟩:=h;cases rx;obtain ⟨t,rfl⟩:=ry;obtain ⟨its,r,pl,hz⟩:=I.tuple hq;obtain ⟨j,h1,h2,h3,h4,h5⟩:=a1O he;obtain ⟨w,ew,rw'⟩:=r.get h2;have hl:=r.length;have hn:=W5;have fin:EP X pins σ Q w s:=⟨z,H,I,rw',q⟩
 exact subscriptTail_builtinR (x:=w) pl.typeIs slot_tuple_getitem.lookup
  (getItem_tuple (j:=j) (Q:=fun r s'=>r=w/\EP X pins σ Q r s') pl (by omega) (by omega) (by rw [List.size_toArray,<- hl];exact h1) (by simpa using ew) ⟨rfl,fin⟩) hs
theorem b6k:IxR X c0W:=by
 intro value slice pins s σ H x y v u Q I rx ry h hs;obtain ⟨z,i,c,rfl,rfl,hz,he,q⟩:=h;obtain ⟨t,rfl⟩:=rx;obtain ⟨t',rfl⟩:=ry;obtain ⟨j,h1,h2,h3,h4,h5⟩:=a1O he;have hl:z.cps.toList.length=z.length:=by simp [Str.length]
 rw [hl] at h1 h4 h5;have hn:=W5
 exact tail_any (typeIs_str s z t) slot_str_getitem.lookup (getItem_str (c:=c) (by
  have e1:decide (i < -(2 ^ 63:Int))=false:=decide_eq_false (by omega);have e2:decide (i ≥ 2 ^ 63)=false:=decide_eq_false (by omega);rw [e1,e2,Bool.or_false]) (by rw [h1];simpa using h2) ⟨.str ⟨#[c]⟩,H,I.tok _,⟨_,rfl⟩,q⟩) hs
def rIx(K:PySem.W.Frag):R2:=fun x y H Q=>c0K K x y H Q\/c0e K x y H Q\/c0W x y H Q
theorem b8B:IxR X (rIx X.K):=ix_list.or (ix_tup.or b6k)
theorem a4k(its:List Value)(n j:Nat)(u:Value):Obj.mapSeq (·.setIfInBounds j u) { cls:=.type "list",data:=.seq its.toArray n }={ cls:=.type "list",data:=.seq (its.set j u).toArray n }:=by
 simp [Obj.mapSeq]
theorem Inv.lst{pins:List (Addr×Obj)}{σ:St}{H:Hp}{s:Shared}{p:Addr}{xs:List V}(I:Inv X pins σ H s)(h:H p=some (.lst xs)) :
  ∃ (its:List Value) (n:Nat),Vals xs its/\s.heap.get? p=some { cls:=.type "list",data:=.seq its.toArray n }/\xs.length <= sizeLine:=by
 obtain ⟨z,its,n,r,e⟩:=I.hok p _ h;exact ⟨its,n,r,e,z⟩
theorem Inv.lstUpd{pins:List (Addr×Obj)}{σ:St}{H:Hp}{s:Shared}{p:Addr}{xs ys:List V}{its its':List Value}{n n':Nat}{f:Obj->Obj}(I:Inv X pins σ H s)(h:H p=some (.lst xs))
  (ho:s.heap.get? p=some { cls:=.type "list",data:=.seq its.toArray n }) (hf:f { cls:=.type "list",data:=.seq its.toArray n }={ cls:=.type "list",data:=.seq its'.toArray n' }) (r:Vals ys its') (hz:ys.length <= sizeLine) (t:Nat) :
  Inv X pins σ (upd H p (.lst ys)) { s with heap:=s.heap.update p f,toks:=t }:=by
 have e:(s.heap.update p f).get? p=some { cls:=.type "list",data:=.seq its'.toArray n' }:=by
  rw [Heap.get?_update_self f ho (by rw [hf] <;> rfl),hf]
 refine I.write (x:=p) (e:=p) (by rw [h];trivial) (.inl rfl) (fun b u hb q=>(Heap.get?_update_other _ _ (Ne.symm hb)).trans q) ⟨_,e⟩ ?_;exact ⟨hz,its',n',r,e⟩
def b4Z:V->V->V->Hp->(Hp->Prop)->Prop:=fun o i v H Q=>∃ p xs k j,o = .ref p/\i = .int k/\H p=some (.lst xs)/\ixN xs.length k=some j/\Q (upd H p (.lst (xs.set j v)))
theorem a8f:b9Z X b4Z:=by
 intro pins s σ H o i v ov iv u Q I ro ri rv h;obtain ⟨p,xs,k,j,rfl,rfl,hp,hj,q⟩:=h;cases ro;obtain ⟨t,rfl⟩:=ri;obtain ⟨its,n,r,ho,hz⟩:=I.lst hp;obtain ⟨h1,h2,h3,h4⟩:=a5a hj;have hl:=r.length;have hn:=W5
 have I':Inv X pins σ (upd H p (.lst (xs.set j v))) { s with heap:=s.heap.update p (Obj.mapSeq (·.setIfInBounds j u)) } :=
  I.lstUpd hp ho (a4k its n j u) (r.set rv j) (by rw [List.length_set];exact hz) s.toks
 by_cases h0:0 <= k
 ·have hk:k.toNat=j:=by
   rw [seqIndex_of h0 h4] at h1;exact Option.some.inj h1
  exact PySem.W.ki_setAt ho h0 (by omega) (by rw [List.size_toArray,<- hl];exact h4) (by rw [hk];exact ⟨_,I',q⟩)
 ·have hk:(k + (its.toArray.size:Int)).toNat=j:=by
   rw [seqIndex_neg (by omega) h3] at h1;rw [List.size_toArray,<- hl];exact Option.some.inj h1
  exact PySem.W.ki_setBack ho (by omega) (by rw [List.size_toArray,<- hl];exact h3) (by omega) (by rw [hk];exact ⟨_,I',q⟩)
theorem a1Z(lo hi:Option Int)(n:Nat):(sliceBounds lo hi none n).1=((HT.sIx n 0 lo:Nat):Int)/\(sliceBounds lo hi none n).2.1=((HT.sIx n n hi:Nat):Int)/\(sliceBounds lo hi none n).2.2=1:=by
 refine ⟨?_,?_,rfl⟩
 ·cases lo with
  |none=>simp [sliceBounds,HT.sIx]
  |some i =>
   simp only [sliceBounds,HT.sIx,Option.getD_none,show (1:Int) > 0 by decide,if_true]
   by_cases h:i < 0
   ·simp only [h,if_true] <;> omega
   ·simp only [h,if_false] <;> omega
 ·cases hi with
  |none=>simp [sliceBounds,HT.sIx]
  |some i =>
   simp only [sliceBounds,HT.sIx,Option.getD_none,show (1:Int) > 0 by decide,if_true]
   by_cases h:i < 0
   ·simp only [h,if_true] <;> omega
   ·simp only [h,if_false] <;> omega
theorem a0W(its:List Value)(lo hi:Option Int):slicePick its.toArray lo hi none=((its.drop (HT.sIx its.length 0 lo)).take (HT.sIx its.length its.length hi - HT.sIx its.length 0 lo)).toArray:=by
 obtain ⟨h1,h2,h3⟩:=a1Z lo hi its.toArray.size;unfold slicePick;rw [h1,h2,h3];simp only [sliceRange_one,pick_run,List.size_toArray] <;> rfl
def c1R(K:PySem.W.Frag):V->Option Int->Option Int->Hp->VK->Prop:=fun x lo hi H Q=>∃ a xs,x = .ref a/\SqL K H a xs/\∀ p,H p=none->Q (.ref p) (upd H p (.lst (S4 xs lo hi)))
theorem b4q:SlR X (c1R X.K):=by
 intro pins s σ H x v vl vu lo hi sl Q I rx hs pl pu h;obtain ⟨a,xs,rfl,hx,q⟩:=h;cases rx;obtain ⟨its,r,ht,hz⟩:=I.list hx;have hlen:=r.length;refine ⟨"list",_,slot_list_getitem.lookup,ht.isList.typeIs,?_⟩;refine wpAny_getItem_list_slice ht.isList hs pl pu .none (by simp) ?_ (by rw [List.size_toArray] <;> omega);rw [a0W,<- hlen];refine ⟨.ref s.heap.objs.size,_,I.laid (t':=s.toks) (o:=.lst (S4 xs lo hi)) (fun b ob q=>Heap.get?_push_of_some _ q) (Nat.le_refl _) ?_,rfl,q _ (I.hok.fresh (Nat.le_refl _))⟩;exact ⟨Nat.le_trans (X4 xs lo hi) hz,_,0,(r.drop (HT.sIx xs.length 0 lo)).take (HT.sIx xs.length xs.length hi - HT.sIx xs.length 0 lo),Heap.get?_push_size _ rfl⟩
def P7:V->Bool
 |.non=>true
 |.bl _=>true
 |.int _=>true
 |.str _=>true
 |_=>false
def eqV:V->V->Bool
 |.non,.non=>true
 |.bl a,.bl b=>a == b
 |.bl a,.int b=>(if a then 1 else 0) == b
 |.int a,.bl b=>a == (if b then 1 else 0)
 |.int a,.int b=>a == b
 |.str a,.str b=>a == b
 |_,_=>false
theorem b7B{A:Around}{s:Shared}{y x:V}{u v:Value}(ry:RelV y u)(rx:RelV x v)(fy:P7 y=true)(fx:P7 x=true):SeqAt.EqAt A s u v (eqV y x):=by
 cases y with
 |non =>
  cases ry
  cases x with
  |non=>cases rx;exact SeqAt.EqAt.same _
  |bl b=>cases rx;exact SeqAt.EqAt.none_bool b
  |int b=>obtain ⟨t,rfl⟩:=rx;exact SeqAt.EqAt.none_int b t
  |str b=>obtain ⟨t,rfl⟩:=rx;exact SeqAt.EqAt.none_str b t
  |_=>exact absurd (show false=true from fx) Bool.false_ne_true
 |bl a =>
  cases ry
  cases x with
  |non=>cases rx;exact SeqAt.EqAt.bool_none a
  |bl b=>cases rx;exact SeqAt.EqAt.bool_bool a b
  |int b=>obtain ⟨t,rfl⟩:=rx;exact SeqAt.EqAt.bool_int a b t
  |str b=>obtain ⟨t,rfl⟩:=rx;exact SeqAt.EqAt.bool_str a b t
  |_=>exact absurd (show false=true from fx) Bool.false_ne_true
 |int a =>
  obtain ⟨t',rfl⟩:=ry
  cases x with
  |non=>cases rx;exact SeqAt.EqAt.int_none a t'
  |bl b=>cases rx;exact SeqAt.EqAt.int_bool a t' b
  |int b=>obtain ⟨t,rfl⟩:=rx;exact SeqAt.EqAt.int_int a t' b t
  |str b=>obtain ⟨t,rfl⟩:=rx;exact SeqAt.EqAt.int_str a t' b t
  |_=>exact absurd (show false=true from fx) Bool.false_ne_true
 |str a =>
  obtain ⟨t',rfl⟩:=ry
  cases x with
  |non=>cases rx;exact SeqAt.EqAt.str_none a t'
  |bl b=>cases rx;exact SeqAt.EqAt.str_bool a t' b
  |int b=>obtain ⟨t,rfl⟩:=rx;exact SeqAt.EqAt.str_int a t' b t
  |str b=>obtain ⟨t,rfl⟩:=rx;exact SeqAt.EqAt.str_str a t' b t
  |_=>exact absurd (show false=true from fx) Bool.false_ne_true
 |_=>exact absurd (show false=true from fy) Bool.false_ne_true
def eqU(x:V)(u:Value):Bool:=match u with
 |.none=>eqV .non x
 |.bool b=>eqV (.bl b) x
 |.int i _=>eqV (.int i) x
 |.str z _=>eqV (.str z) x
 |_=>false
theorem b0S{x y:V}{u:Value}(r:RelV y u)(f:P7 y=true):eqU x u=eqV y x:=by
 cases y with
 |non=>cases r;rfl
 |bl b=>cases r;rfl
 |int i=>obtain ⟨t,rfl⟩:=r;rfl
 |str z=>obtain ⟨t,rfl⟩:=r;rfl
 |_=>exact absurd (show false=true from f) Bool.false_ne_true
theorem a1P{x:V}:∀ {xs:List V} {us:List Value},Vals xs us->xs.all P7=true->us.any (eqU x)=xs.any fun y=>eqV y x
 |_,_,.nil,_=>rfl
 |y :: xs,u :: us,.cons r t,f=>by
  rw [List.all_cons,Bool.and_eq_true] at f;rw [List.any_cons,List.any_cons,b0S r f.1,a1P t f.2]
theorem a0o{A:Around}{s:Shared}{x:V}{v:Value}(rx:RelV x v)(fx:P7 x=true):∀ {xs:List V} {us:List Value},Vals xs us->xs.all P7=true->∀ u ∈ us,SeqAt.EqAt A s u v (eqU x u)
 |_,_,.nil,_=>fun u hu=>by cases hu
 |y :: xs,u :: us,.cons r t,f=>fun u' hu=>by
  rw [List.all_cons,Bool.and_eq_true] at f
  rcases List.mem_cons.mp hu with rfl | hu
  ·rw [b0S r f.1];exact b7B r rx f.1 fx
  ·exact a0o rx fx t f.2 u' hu
def inV(x:V)(xs:List V):Bool:=xs.any fun y=>eqV y x
def rIn(K:PySem.W.Frag)(neg:Bool):R2:=fun x y H Q=>∃ p xs,y = .ref p/\(SqL K H p xs\/SqT K H p xs)/\P7 x=true/\xs.all P7=true/\Q (.bl (if neg then !inV x xs else inV x xs)) H
theorem a5T:OpR X (compareOp .In) (rIn X.K false):=by
 intro pins s σ H x y v u Q I rx ry h;obtain ⟨p,xs,rfl,hq,fx,fs,q⟩:=h;cases ry
 rcases hq with hq | hq
 ·obtain ⟨its,r,pl,hz⟩:=I.list hq;refine SeqAt.in_listAt (eqU x) pl.isList (fun w hw=>a0o rx fx r fs w (by simpa using hw)) ⟨.bl _,H,I,rfl,?_⟩;rw [show its.toArray.any (eqU x)=its.any (eqU x) by simp,a1P r fs];exact q
 ·obtain ⟨its,r,pl,hz⟩:=I.tuple hq;refine SeqAt.in_tupleAt (eqU x) pl (fun w hw=>a0o rx fx r fs w (by simpa using hw)) ⟨.bl _,H,I,rfl,?_⟩;rw [show its.toArray.any (eqU x)=its.any (eqU x) by simp,a1P r fs];exact q
theorem a1L:CallR X (.type "list") (fun xs H Q=>∃ p ys,xs=[.ref p]/\(SqL X.K H p ys\/SqT X.K H p ys)/\∀ l,H l=none->Q (.ref l) (upd H l (.lst ys))):=by
 intro pins s σ H xs us Q I r h;obtain ⟨p,ys,rfl,hq,q⟩:=h;obtain ⟨u,rfl,rx⟩:=T7 r;cases rx
 have fin:∀ (its:List Value),Vals ys its->ys.length <= sizeLine->∀ (h':Heap) (c':Nat),(∀ b o',s.heap.get? b=some o'->h'.get? b=some o') ->
   h'.get? s.heap.objs.size=some { cls:=.type "list",dict:=none,data:=.seq its.toArray c',slots:=#[] }->EP X pins σ Q (.ref s.heap.objs.size) { s with heap:=h' }:=fun its r' hz h' c' kp e =>
  ⟨.ref s.heap.objs.size,_,I.laid (t':=s.toks) kp (Nat.le_refl _) (show ObjOk X.prog X.w _ h' _ (.lst ys) from ⟨hz,its,c',r',e⟩),rfl,q _ (I.hok.fresh (Nat.le_refl _))⟩
 rcases hq with hq | hq
 ·obtain ⟨its,r',pl,hz⟩:=I.list hq;have hlen:=r'.length;obtain ⟨o,ho,hc,n,hd⟩:=pl.isList;exact call_list_seq p (.inl rfl) ho hc hd (fun h' c' kp e=>fin its r' hz h' c' kp e) (by simp only [List.size_toArray] <;> omega)
 ·obtain ⟨its,r',pl,hz⟩:=I.tuple hq;have hlen:=r'.length;obtain ⟨o,ho,hc,n,hd⟩:=pl;exact call_list_seq p (.inr rfl) ho hc hd (fun h' c' kp e=>fin its r' hz h' c' kp e) (by simp only [List.size_toArray] <;> omega)
theorem a0U:CallR X (.type "tuple") (fun xs H Q=>∃ p ys,xs=[.ref p]/\((SqL X.K H p ys/\∀ l,H l=none->Q (.ref l) (upd H l (.tup ys)))\/(SqT X.K H p ys/\Q (.ref p) H))):=by
 intro pins s σ H xs us Q I r h;obtain ⟨p,ys,rfl,h⟩:=h;obtain ⟨u,rfl,rx⟩:=T7 r;cases rx
 rcases h with ⟨hq,q⟩ | ⟨hq,q⟩
 ·obtain ⟨its,r',pl,hz⟩:=I.list hq;have hlen:=r'.length;refine call_tuple_list pl.isList (fun h' kp=>?_) (by simp only [List.size_toArray] <;> omega);have I1:Inv X pins σ H { s with heap:=h' }:=I.kept (t':=s.toks) kp
  have I2:Inv X pins σ (upd H h'.objs.size (.tup ys)) { s with heap:=h'.push { cls:=.type "tuple",data:=.seq its.toArray } } :=
   I1.laid (t':=s.toks) (fun b o e=>Heap.get?_push_of_some _ e) (Nat.le_refl _) (show ObjOk X.prog X.w _ _ _ (.tup ys) from ⟨hz,its,r',IsTup.new _ _⟩)
  exact ⟨.ref h'.objs.size,_,I2,rfl,q _ (I1.hok.fresh (Nat.le_refl _))⟩
 ·obtain ⟨its,r',pl,hz⟩:=I.tuple hq;exact call_tuple_same pl ⟨.ref p,H,I,rfl,q⟩
def tyV(K:PySem.W.Frag)(T:String)(x:V)(H:Hp):Prop:=match x with
 |.str _=>T = "str"
 |.int _=>T = "int"
 |.ref p=>(T = "list"/\∃ xs,SqL K H p xs)\/(T = "tuple"/\∃ o,K.lookup p=some o/\o.cls = .type "tuple"/\o.dict=none) \/
   (T = "dict"/\((∃ kvs,H p=some (.dK kvs))\/∃ kvs,H p=some (.dT kvs)))\/(T = "set"/\∃ S n,H p=some (.set S n))
 |_=>False
theorem a7T{pins:List (Addr×Obj)}{σ:St}{H:Hp}{s:Shared}{T:String}{x:V}{v:Value}(I:Inv X pins σ H s)(r:RelV x v)(ty:tyV X.K T x H) :
  s.TypeIs v T/\∀ a,v = .ref a->∃ ob,s.heap.get? a=some ob/\ob.dict=none:=by
 cases x with
 |str z =>
  obtain ⟨t,rfl⟩:=r
  cases (show T = "str" from ty)
  exact ⟨typeIs_str s z t,fun _ e=>nomatch e⟩
 |int i =>
  obtain ⟨t,rfl⟩:=r
  cases (show T = "int" from ty)
  exact ⟨typeIs_int s i t,fun _ e=>nomatch e⟩
 |ref p =>
  cases r
  rcases ty with ⟨rfl,xs,hq⟩ | ⟨rfl,o,hk,hc,hd⟩ | ⟨rfl,hk⟩ | ⟨rfl,S,n,hk⟩
  ·obtain ⟨its,_,pl,_⟩:=I.list hq;refine ⟨pl.isList.typeIs,fun a e=>?_⟩;cases e;obtain ⟨o,n,e,c,hd,_⟩:=pl;exact ⟨o,e,hd⟩
  ·refine ⟨⟨o,I.kIn p o hk,hc⟩,fun a e=>?_⟩;cases e;exact ⟨o,I.kIn _ o hk,hd⟩
  ·have z:∃ o,s.heap.get? p=some o/\o.ExactDict:=by
    rcases hk with ⟨kvs,hk⟩ | ⟨kvs,hk⟩
    ·obtain ⟨_,_,_,_,o,_,_,e,ex,_⟩:=I.hok p _ hk;exact ⟨o,e,ex⟩
    ·obtain ⟨_,_,_,_,o,_,_,e,ex,_⟩:=I.hok p _ hk;exact ⟨o,e,ex⟩
   obtain ⟨o,e,ex⟩:=z;refine ⟨⟨o,e,ex.1⟩,fun a e2=>?_⟩;cases e2;exact ⟨o,e,ex.2.1⟩
  ·obtain ⟨o,_,_,_,e,ex,_⟩:=I.hok p _ hk;refine ⟨⟨o,e,ex.1⟩,fun a e2=>?_⟩;cases e2;exact ⟨o,e,ex.2.1⟩
 |_=>exact False.elim ty
def c1U(K:PySem.W.Frag)(T:String)(r:V->List V->Hp->VK->Prop)(to:TE):TE:=fun σ H Q=>to σ H fun x H1=>tyV K T x H1/\r x [] H1 Q
def tBM(K:PySem.W.Frag)(T:String)(r:V->List V->Hp->VK->Prop)(to:TE)(t:TA):TE:=fun σ H Q=>to σ H fun x H1=>tyV K T x H1/\t σ H1 fun xs H2=>r x xs H2 Q
variable {o e:Expr} {es:List Expr} {to:TE} {t:TA} {name:Str} {apos cpos:Pos} {T id:String} {r:V->List V->Hp->VK->Prop}
theorem a9U(pa:PlainAttrs T)(slot:Slot T name id)(hty:typeOf (.builtin id)=pure (.type "method_descriptor"))(hm:MtR X id r)(ho:PE X o to)
  (hbase:attributeBase o name X.env (eval o X.env)=eval o X.env:=by rfl) (hline:(apos.endLine == cpos.line)=true:=by rfl):PE X (.Call (.Attribute o name apos) [] [] cpos) (c1U X.K T r to):=by
 intro pins s σ H Q I h;refine wpAny_Call_method0_late hbase hline (thn (ho pins s σ H _ I h) fun v s1 zz0=>?_);obtain ⟨x,H1,I1,r1,ty,q1⟩:=zz0;obtain ⟨h1,h2⟩:=a7T I1 r1 ty;exact ⟨T,id,pa,slot,hty,h1,h2,Calls.callWith_builtin rfl (PySem.evalArgs_none (hm pins s1 σ H1 x [] v [] Q I1 r1 .nil q1))⟩
theorem c0s(pa:PlainAttrs T)(slot:Slot T name id)(hty:typeOf (.builtin id)=pure (.type "method_descriptor"))(hm:MtR X id r)(ho:PE X o to)(ha:PA X (e :: es) t)
  (hbase:attributeBase o name X.env (eval o X.env)=eval o X.env:=by rfl)
  (hfew:((backTo cpos (starEach (e :: es) X.env)).all (fun x=>!x.1) && (backToKw cpos (keywordEach [] X.env)).all (fun x=>x.1.isSome)
   && decide ((e :: es).length + ([]:List Keyword).length + (if ([]:List Keyword).isEmpty then 0 else 1) < 30))=true:=by rfl)
  (hline:(apos.endLine == cpos.line)=true:=by rfl) (hs:starEach (e :: es) X.env=(false,eval e X.env) :: starEach es X.env:=by rfl) (hplain:(backTo cpos (starEach es X.env)).any (·.1)=false:=by rfl) :
  PE X (.Call (.Attribute o name apos) (e :: es) [] cpos) (tBM X.K T r to t):=by
 intro pins s σ H Q I h;refine wpAny_Call_method_late hbase hfew hline rfl (thn (ho pins s σ H _ I h) fun v s1 zz0=>?_);obtain ⟨x,H1,I1,r1,ty,q1⟩:=zz0;obtain ⟨h1,h2⟩:=a7T I1 r1 ty;refine ⟨T,id,pa,slot,hty,h1,h2,?_⟩;have hA:=ha cpos pins s1 σ H1 _ I1 q1;rw [hs] at hA ⊢;refine Calls.callWith_builtin (by show (false || (backTo cpos (starEach es X.env)).any (·.1))=false;rw [hplain] <;> rfl) (Calls.evalArgs_plain ?_);exact thn hA fun us s2 ⟨vs,H2,I2,r2,q2⟩=>hm pins s2 σ H2 x vs v us Q I2 r1 r2 q2
end
end L2
namespace L2
open PySem PySem.Spec PyProof.Rows
def MtM(X:Cx)(id:String)(r:V->List V->Hp->VK->Prop):Prop :=
 ∀ (pins:List (Addr×Obj)) (s:Shared) (σ:St) (H:Hp) (x:V) (xs:List V) (v:Value) (us:List Value) (Q:VK),Inv X pins σ H s->RelV x v->Vals xs us->r x xs H Q ->
  wpAny (model X.prog X.w) X.A (call (.builtin id) (v :: us)) (EP X pins σ Q) X.xe s
theorem Vals.one{x:V}{us:List Value}(h:Vals [x] us):∃ u,us=[u]/\RelV x u:=by
 cases h with
 |cons r t=>cases t;exact ⟨_,rfl,r⟩
theorem Vals.zero:∀ {us:List Value},Vals [] us->us=[]
 |_,.nil=>rfl
theorem Vals.dropLast{xs:List V}{us:List Value}(h:Vals xs us):Vals xs.dropLast us.dropLast:=by
 induction h with
 |nil=>exact .nil
 |cons r t ih =>
  cases t with
  |nil=>exact .nil
  |cons q t'=>exact .cons r ih
theorem a3S{α:Type}(l:List α):l.eraseIdx (l.length - 1)=l.dropLast:=by
 induction l with
 |nil=>rfl
 |cons a r ih =>
  cases r with
  |nil=>rfl
  |cons b r =>
   have e:(a :: b :: r).length - 1=((b :: r).length - 1) + 1:=by
    have h1:(a :: b :: r).length=r.length + 2:=rfl;have h2:(b :: r).length=r.length + 1:=rfl;omega
   rw [e,List.eraseIdx_cons_succ,ih]
   all_goals rfl
section
variable {X:Cx} {pins:List (Addr×Obj)} {σ:St} {H:Hp} {s:Shared} {l b:Addr} {xs ys zs:List V}
theorem Inv.lset{its its':List Value}{n:Nat}{f:Array Value->Array Value}{t':Nat}(I:Inv X pins σ H s)(hH:H l=some (.lst xs))
  (e:s.heap.get? l=some { cls:=.type "list",data:=.seq its.toArray n }) (hf:f its.toArray=its'.toArray) (hv:Vals ys its') (hz:ys.length <= sizeLine) :
  Inv X pins σ (upd H l (.lst ys)) { s with heap:=s.heap.update l (Obj.mapSeq f),toks:=t' }:=by
 have q:=PySem.IsL.update e f;rw [hf] at q;refine I.write (x:=l) (e:=l) (by rw [hH];exact trivial) (.inl rfl) (fun b' u hb hu=>(Heap.get?_update_other s.heap (Obj.mapSeq f) (Ne.symm hb)).trans hu) ⟨_,q⟩ ?_;exact ⟨hz,its',_,hv,q⟩
theorem Inv.lnew{its:List Value}{t':Nat}(I:Inv X pins σ H s)(hv:Vals ys its)(hz:ys.length <= sizeLine) :
  Inv X pins σ (upd H s.heap.objs.size (.lst ys)) { s with heap:=s.heap.push { cls:=.type "list",data:=.seq its.toArray },toks:=t' } :=
 I.laid (fun _ _ q=>Heap.get?_push_of_some _ q) (Nat.le_refl _) ⟨hz,its,0,hv,Heap.get?_push_size _ rfl⟩
theorem Inv.fresh(I:Inv X pins σ H s):H s.heap.objs.size=none:=I.hok.fresh (Nat.le_refl _)
theorem Inv.lstM(I:Inv X pins σ H s)(hH:H l=some (.lst xs)):xs.length <= sizeLine/\∃ (its:List Value) (n:Nat),Vals xs its/\xs.length=its.length/\s.heap.get? l=some { cls:=.type "list",data:=.seq its.toArray n }:=by
 obtain ⟨z,its,n,r,e⟩:=I.hok l _ hH;exact ⟨z,its,n,r,r.length,e⟩
theorem b0q{n:Nat}(h:n <= sizeLine):Builtin.List.listTooLong n=false:=by
 unfold Builtin.List.listTooLong;exact decide_eq_false (by omega)
end
section
variable {X:Cx}
def b2k:V->List V->Hp->VK->Prop:=fun x vs H Q=>∃ l xs y,x = .ref l/\vs=[y]/\H l=some (.lst xs)/\xs.length < sizeLine/\Q .non (upd H l (.lst (xs ++ [y])))
theorem a6l:MtM X "list.append" b2k:=by
 intro pins s σ H x vs v us Q I rx rv h;obtain ⟨l,xs,y,rfl,rfl,hH,hz,q⟩:=h;cases rx;obtain ⟨u,rfl,ru⟩:=rv.one;obtain ⟨z,its,n,r,hl,e⟩:=I.lstM hH;refine call_meets F.slot_list_append ⟨_,e,rfl⟩ F.entry_list_append (F.args_list_append_2 _ _) (PySem.list_append l its.toArray n u (by rw [List.size_toArray];omega)) ⟨e,?_⟩;refine ⟨.non,_,I.lset (its':=its ++ [u]) hH e (by simp) (r.append (.cons ru .nil)) ?_,rfl,q⟩;rw [List.length_append,List.length_singleton];omega
def b1X:V->List V->Hp->VK->Prop:=fun x vs H Q=>∃ l b xs zs,x = .ref l/\vs=[.ref b]/\H l=some (.lst xs)/\H b=some (.lst zs)/\xs.length + zs.length <= sizeLine/\Q .non (upd H l (.lst (xs ++ zs)))
theorem b9f:MtM X "list.extend" b1X:=by
 intro pins s σ H x vs v us Q I rx rv h;obtain ⟨l,b,xs,zs,rfl,rfl,hH,hB,hz,q⟩:=h;cases rx;obtain ⟨u,rfl,ru⟩:=rv.one;cases ru;obtain ⟨z,its,n,r,hl,e⟩:=I.lstM hH;obtain ⟨z2,its2,n2,r2,hl2,e2⟩:=I.lstM hB;have hsz:its.toArray.size + its2.toArray.size <= sizeLine:=by rw [List.size_toArray,List.size_toArray];omega
 have hlong:¬ (!its.toArray.isEmpty && Builtin.List.listTooLong (its.toArray.size + its2.toArray.size))=true:=by
  rw [b0q hsz,Bool.and_false];exact Bool.false_ne_true
 refine call_meets F.slot_list_extend ⟨_,e,rfl⟩ F.entry_list_extend (F.args_list_extend_2 _ _)
  (AutoSeq1.list_extend_list_list_0 l its.toArray n b its2.toArray n2 hlong (by rw [List.size_toArray];omega) (by omega)) ⟨e,e2,?_⟩
 refine ⟨.non,_,I.lset (its':=its ++ its2) hH e (by simp) (r.append r2) ?_,rfl,q⟩;rw [List.length_append];omega
def c1K:V->List V->Hp->VK->Prop:=fun x vs H Q=>∃ l xs y,x = .ref l/\vs=[]/\H l=some (.lst xs)/\xs[xs.length - 1]?=some y/\Q y (upd H l (.lst xs.dropLast))
theorem b5L:MtM X "list.pop" c1K:=by
 intro pins s σ H x vs v us Q I rx rv h;obtain ⟨l,xs,y,rfl,rfl,hH,hy,q⟩:=h;cases rx;have hus:=rv.zero;subst hus;obtain ⟨z,its,n,r,hl,e⟩:=I.lstM hH;obtain ⟨u,hu,ru⟩:=r.get hy
 have hy':its.toArray[its.toArray.size - 1]?=some u:=by
  show its.toArray[its.length - 1]?=some u;rw [<- Array.getElem?_toList,<- hl];exact hu
 refine call_meets F.slot_list_pop ⟨_,e,rfl⟩ F.entry_list_pop (F.args_list_pop_1 _) (MeetsSeq.list_pop_last l its.toArray n u hy' (by rw [List.size_toArray];omega)) ⟨e,?_⟩;refine ⟨y,_,I.lset (its':=its.dropLast) hH e ?_ r.dropLast ?_,ru,q⟩
 ·show its.toArray.eraseIdxIfInBounds (its.toArray.size - 1)=its.dropLast.toArray;rw [List.size_toArray,List.eraseIdxIfInBounds_toArray,a3S]
 ·rw [List.length_dropLast];omega
def c1J:R2:=fun x y H Q=>∃ l b xs zs,x = .ref l/\y = .ref b/\H l=some (.lst xs)/\H b=some (.lst zs)/\xs.length + zs.length <= sizeLine/\∀ p,H p=none->Q (.ref p) (upd H p (.lst (xs ++ zs)))
theorem op_cat:OpR X (binaryOp .Add) c1J:=by
 intro pins s σ H x y v u Q I rx ry h;obtain ⟨l,b,xs,zs,rfl,rfl,hH,hB,hz,q⟩:=h;cases rx;cases ry;obtain ⟨z,its,n,r,hl,e⟩:=I.lstM hH;obtain ⟨z2,its2,n2,r2,hl2,e2⟩:=I.lstM hB;refine PySem.P.add_list e e2 ?_ (by rw [List.size_toArray,List.size_toArray];omega);have ea:its.toArray ++ its2.toArray=(its ++ its2).toArray:=by simp
 rw [ea];exact ⟨.ref _,_,I.lnew (t':=s.toks) (r.append r2) (by rw [List.length_append];omega),rfl,q _ I.fresh⟩
end
section
variable {prog:Program} {w:World} {A:Around} {E:Value->Shared->Prop} {s:Shared}
end
section
variable {X:Cx}
end
end L2
namespace Att
open PySem PySem.W PySem.Calls PyProof.Rows
theorem Z1{P:Params}{h:Heap}:∀ (ns:List Int) (vs:List Value),WellAll P h vs (ns.map WData.int)->IntsAre vs ns:=by
 intro ns
 induction ns with
 |nil =>
  intro vs w;rw [List.map_nil] at w;cases w;exact .nil
 |cons n ns ih =>
  intro vs w;rw [List.map_cons] at w
  cases w with
  |cons a b =>
   cases a;exact .cons _ _ (ih _ b)
theorem a6f{l:OpenLaw}{n:Nat}(hn:l.most=some n){P:Params}{h:Heap}{args:List WData}{vals:List Value}
  (hpre:l.row.toRowW.claim.pre args=true) (hwl:WellAll P h vals args) :
  ∃ a vs ns,vals=[Value.ref a]/\args=[WData.list (ns.map WData.int)]/\h.get? a=some { cls:=.type "list",data:=.seq vs.toArray }/\IntsAre vs ns/\ns.length <= n:=by
 have hsh:WShape.hasAll [] args [.list .int]=true:=(pre_splitW hpre).1;have hc:l.pre.holds [] { args:=args }=true:=(pre_splitW hpre).2;obtain ⟨d,r,rfl,h1,h2⟩:=hasAllW_cons hsh
 obtain rfl:=hasAllW_nil h2
 obtain ⟨xs,rfl,h3⟩:=hasW_list h1;obtain ⟨ns,rfl⟩:=items_int h3
 have hlen:ns.length <= n:=by
  unfold OpenLaw.pre at hc
  have h4:(WTm.not (.lt (.lit (.int (n:Int))) (.len (.arg 0)))).holds [] { args:=[.list (ns.map .int)] }=true:=by
   have h4:=(holds_andW hc).1;rw [hn] at h4;exact h4
  have h5:=condW_of h4 (w_not (w_lt w_lit (w_len_list (w_arg rfl))));rw [List.length_map] at h5;refine Nat.le_of_not_lt fun q=>?_;have q':(n:Int) < ((ns.length:Nat):Int):=by omega
  first
   |(rw [decide_eq_true q'] at h5;exact absurd h5 (by decide))
   |(simp at h5;omega)
 cases hwl with
 |cons w1 w2 =>
  cases w2
  cases w1 with
  |list ho hall=>exact ⟨_,_,ns,rfl,rfl,ho,Z1 ns _ hall,hlen⟩
theorem a6C(l:OpenLaw)(args:List WData):l.row.toRowW.claim.post args (.bool true) args=true :=
 postW_of (r:=l.row.toRowW) (X:=(true == true))
  (show WShape.has [] (.bool true) .bool=true by first | rfl | decide | simp [WShape.has,WShape.arms,WShape.armsAll])
  (show (WTm.eq .res (.lit (.bool true))).value [] { args:=args,res:=some (.bool true),after:=args }=some (.bool (true == true)) from w_eq_bool (w_res rfl) w_lit) rfl
section
variable {prog:Program} {w:World} {A:Around} {E:Value->Shared->Prop} {s:Shared} {K:Frag}
end
end Att
namespace L2
open PySem PySem.Spec PyProof.Rows
theorem a1q:∀ {vs:List Value} {ns:List Int},IntsAre vs ns->Vals (ns.map V.int) vs
 |_,_,.nil=>.nil
 |_,_,.cons n t h=>.cons ⟨t,rfl⟩ (a1q h)
def c0a(H:Hp):Prop:=∀ b,H b=none\/∃ o xs,H b=some (.frz o (.lst xs))
theorem law_call{P:Program}{w:World}{K:PySem.W.Frag}{mg mb:Str->Option Value}{CX:CXT}{k:Nat}{fa a:Addr}{fd:FuncData}{x:Str}{sp:Sp}{s₁:Shared}{vs:List Value}{ns:List Int}
  (KX:K.In s₁.heap) (hns:s₁.heap.Ns mainGlobals mg) (hb:s₁.heap.Ns builtinsNs mb) (hbb:∀ x:Str,x ≠ "__name__"->mb x=bootBuiltins x) (hlim:s₁.heap.NoLimit) (hg:s₁.gens = #[])
  (ha:s₁.heap.get? a=some { cls:=.type "list",data:=.seq vs.toArray }) (hi:IntsAre vs ns) (hl:ns.length <= sizeLine) (hr:Room k callerA)
  (F:∀ base:Heap,K.In base->base.Ns mainGlobals mg->l9 P w K mg base CX k fa fd [x] sp) (hbind:∀ (s:Shared) (u:Value),BindsTo s fd ⟨[u],[]⟩ [(x,u)])
  (hsp:∀ H:Hp,c0a H->SqL K H a (ns.map V.int)->sp [.ref a] H (fun v _=>v = .bl true) fun _ _ _=>False)
  (hCX:∀ H e s',CX [] H s₁ (fun _ _ _=>False) e s'->False) :
  codeAny (model P w) callerA (.call (.ref fa) ⟨[.ref a],[]⟩) (fun r s'=>r = .ok (.ret (.bool true))/\OldK s₁.heap s'.heap/\s'.os=s₁.os/\AllBare s'.gens) s₁:=by
 have rv:=a1q hi;have lenV:=hi.length
 have core:∀ H:Hp,c0a H->SqL K H a (ns.map V.int)->HOk P w H s₁.heap->(∀ b,H b ≠ none->b=a)->(H a ≠ none->K.lookup a=none) ->
   codeAny (model P w) callerA (.call (.ref fa) ⟨[.ref a],[]⟩) (fun r s'=>r = .ok (.ret (.bool true))/\OldK s₁.heap s'.heap/\s'.os=s₁.os/\AllBare s'.gens) s₁:=by
  intro H hO hS hok hA hK;have base_of:∀ {b:Addr} {o:Obj},s₁.heap.get? b=some o->H b=none->(a1Q s₁.heap H).get? b=some o:=fun e n=>b0K e n
  have noA:∀ {b:Addr} {o:Obj} {es:Array DictEntry} {ep:Nat},s₁.heap.get? b=some o->o.data = .dict es ep->H b=none:=fun {b o es ep} e d=>by
   cases q:H b with
   |none=>rfl
   |some u =>
    have e':b=a:=hA b (by rw [q];simp);subst e';rw [ha] at e;cases e;have d':Data.seq vs.toArray _=Data.dict es ep:=d
    cases d'
  have nsK:∀ {b:Addr} {m:Str->Option Value},s₁.heap.Ns b m->(a1Q s₁.heap H).Ns b m:=fun {b m} ⟨o,es,ep,e,d,r⟩=>⟨o,es,ep,base_of e (noA e d),d,r⟩
  have hKb:K.In (a1Q s₁.heap H):=fun b o e=>base_of (KX b o e) (by
   cases q:H b with
   |none=>rfl
   |some u =>
    have e':b=a:=hA b (by rw [q];simp);subst e';rw [hK (by rw [q];simp)] at e;cases e)
  have hM:Mod K mg (a1Q s₁.heap H):=⟨hKb,nsK hns,⟨mb,nsK hb,hbb⟩,let ⟨mc,h1,h2⟩:=hlim;⟨mc,nsK h1,h2⟩⟩
  have e0:Env0 P w K mg (a1Q s₁.heap H) callerA [] s₁ H:=⟨rfl,hM,fun b o e=>b1N e,Nat.le_of_eq (a6g _ _),trivial,fun b hb=>absurd (show b ∈ ([]:List Addr) from hb) (by simp),hok,.of_eq hg⟩
  refine codeAny_mono ((F _ hKb (nsK hns)).run callerA [] s₁ H ⟨[.ref a],[]⟩ [.ref a] [.ref a] _ _ hr e0 (hbind s₁ (.ref a)) (.cons rfl .nil) (hsp H hO hS)) fun r s' h=>?_
  cases r with
  |error e=>exact (hCX H e s' h).elim
  |ok fl =>
   cases fl with
   |next=>exact False.elim h
   |brk=>exact False.elim h
   |cont=>exact False.elim h
   |ret u =>
    obtain ⟨v,H',os,bare,un,hok',r',q⟩:=h;have q':v = .bl true:=q;subst q'
    obtain rfl:u=Value.bool true:=r'
    refine ⟨rfl,OldK.of_keep fun b o e=>?_,os,bare⟩
    cases q:H b with
    |none=>exact un.keep b o e q (by intro z;exact absurd (show b ∈ ([]:List Addr) from z) (by simp)) (by simp)
    |some u =>
     rcases hO b with z | ⟨ob,xs,z⟩
     ·rw [q] at z;cases z
     ·have z2:=un.frzs b ob _ z;obtain ⟨e1,_⟩:=hok b _ z;obtain ⟨e2,_⟩:=hok' b _ z2;rw [e] at e1;cases e1;exact e2
 cases hk:K.lookup a with
 |some o =>
  have e:=KX a o hk;rw [ha] at e;cases e;refine core (fun _=>none) (fun _=>.inl rfl) (.inr ⟨_,vs.toArray,_,hk,rfl,rfl,rfl,by rw [List.size_toArray,lenV];exact hl,by simpa using rv⟩) (fun b u z=>by have z':(none:Option HO)=some u:=z;cases z') (fun b z=>absurd rfl z) fun z=>absurd rfl z
 |none =>
  refine core (fun b=>if b=a then some (.frz { cls:=.type "list",data:=.seq vs.toArray } (.lst (ns.map V.int))) else none) (fun b=>?_) (.inl (.inr ⟨{ cls:=.type "list",data:=.seq vs.toArray },if_pos rfl⟩)) (fun b u z=>?_) (fun b z=>?_) fun _=>hk
  ·by_cases hb:b=a
   ·exact .inr ⟨_,_,if_pos hb⟩
   ·exact .inl (if_neg hb)
  ·by_cases hb:b=a
   ·have z':=(if_pos hb).symm.trans z
    cases z'
    subst hb;exact ⟨ha,by rw [List.length_map];exact hl,vs,_,rv,ha⟩
   ·have z':=(if_neg hb).symm.trans z
    cases z'
  ·by_cases hb:b=a
   ·exact hb
   ·exact absurd (if_neg hb) z
end L2
namespace L2
open PySem PySem.Spec PyProof.Rows
end L2
namespace L2
open PySem PySem.Spec PyProof.Rows
def j6(s:Stmt):Arguments:=match s with
 |.FunctionDef _ a _ _ _ _ _ _ _ _=>a
 |_=>{ posonlyargs:=[],args:=[],vararg:=none,kwonlyargs:=[],kw_defaults:=[],kwarg:=none,defaults:=[] }
def j3(s:Stmt):List Stmt:=match s with
 |.FunctionDef _ _ b _ _ _ _ _ _ _=>b
 |_=>[]
def c7(s:Stmt):Scope:=match s with
 |.FunctionDef _ _ _ _ _ _ sc _ _ _=>sc
 |_=>{ kind:=.function,names:=[],isGenerator:=false,isCoroutine:=false }
abbrev CX0:CXT:=fun _ _ _ _ _ _=>False
abbrev E0:XK:=fun _ _ _=>False
theorem a3s{X:Cx}:O2 CX0 X E0:=fun _ _ _ _ _ _ _ h=>h.elim
structure Fun(K:PySem.W.Frag)(x qual:Str)(st:Stmt)(f:Addr)(fd:FuncData):Prop where
 ex:∃ (oc:Value) (od:Option Addr) (dV kV doc pm:Value) (an:Option Addr) (cdv ct:Value) (osl:Array (Option Value)),
  fd=PySem.W.fnOf x qual (j6 st) (j3 st) (c7 st) dV kV doc pm an cdv ct/\K.lookup f=some ⟨oc,od,.func fd,osl⟩/\PySem.W.codeIn K cdv qual=true
 kp:PySem.W.keepIn K (.ref f)=true
section
variable {P:Program} {w:World} {K:PySem.W.Frag} {mg:Str->Option Value} {base:Heap}
theorem Fun.ok{x qual:Str}{st:Stmt}{f:Addr}{fd:FuncData}{N ps:List Str}{k:Nat}{sp:Sp}(F:Fun K x qual st f fd)(S:i4 N ps (c7 st))(len:∀ vs H Q E,sp vs H Q E->vs.length=ps.length)
  (hbody:∀ (cdv:Value) (A:Around) (outer:List Env) (s:Shared) (H:Hp) (vs:List V) (Q:VK) (E:XK),Room k (A.deeper (envOfC qual (c7 st) s.heap.objs.size f cdv))->sp vs H Q E ->
   ∃ t,PSs (a2Q CX0 P w K mg base N qual (c7 st) f cdv A outer s H E).nox (j3 st) t/\t { nx:=fun _ H'=>Q .non H',rt:=Q } (start N vs) H):l9 P w K mg base CX0 (k + 1) f fd ps sp:=by
 obtain ⟨oc,od,dV,kV,doc,pm,an,cdv,ct,osl,rfl,lk,hcd⟩:=F.ex;refine b9l lk hcd S len fun A outer s H vs Q E hr hsp=>?_;obtain ⟨t,h,q⟩:=hbody cdv A outer s H vs Q E hr hsp;exact ⟨t,h.nox,q⟩
theorem B2{x qual:Str}{st:Stmt}{f:Addr}{oc:Value}{od an:Option Addr}{osl:Array (Option Value)}{dV kV doc pm cdv ct:Value}(l:K.lookup f=some ⟨oc,od,.func (PySem.W.fnOf x qual (j6 st) (j3 st) (c7 st) dV kV doc pm an cdv ct),osl⟩)
  (c:PySem.W.codeIn K cdv qual=true) (k:PySem.W.keepIn K (.ref f)=true):Fun K x qual st f (PySem.W.fnOf x qual (j6 st) (j3 st) (c7 st) dV kV doc pm an cdv ct):=⟨⟨oc,od,dV,kV,doc,pm,an,cdv,ct,osl,rfl,l,c⟩,k⟩
end
section
variable {X:Cx}
end
theorem a0w{A B:Prop}(h:B):if false=true then A else B:=by
 rw [if_neg Bool.false_ne_true];exact h
theorem a0X{A B:Prop}(h:A):if true=true then A else B:=by
 rw [if_pos rfl];exact h
end L2
namespace L2
open PySem PySem.Spec PyProof.Rows
theorem F8{env:Env}:∀ {names:List (Str×NameKind)} {x:Str},
  (names.map fun (n,k)=>if (k == NameKind.free && env.scope.kind == .function && env.kindOf n == some .cell) then (n,NameKind.cell) else (n,k)).lookup x
   = (names.lookup x).map fun k=>if (k == NameKind.free && env.scope.kind == .function && env.kindOf x == some .cell) then NameKind.cell else k
 |[],_=>rfl
 |(n,k) :: r,x=>by
  have ih:=@F8 env r x;show List.lookup x ((if (k == NameKind.free && env.scope.kind == .function && env.kindOf n == some .cell)=true then (n,NameKind.cell) else (n,k)) :: _)=_
  cases hx:x == n with
  |true =>
   have e:x=n:=beq_iff_eq.mp hx;subst e
   by_cases hc:(k == NameKind.free && env.scope.kind == .function && env.kindOf x == some .cell)=true
   ·rw [if_pos hc];simp only [List.lookup_cons,hx,Option.map_some];rw [if_pos hc]
   ·rw [if_neg hc];simp only [List.lookup_cons,hx,Option.map_some];rw [if_neg hc]
  |false =>
   by_cases hc:(k == NameKind.free && env.scope.kind == .function && env.kindOf n == some .cell)=true
   ·rw [if_pos hc];simp only [List.lookup_cons,hx];exact ih
   ·rw [if_neg hc];simp only [List.lookup_cons,hx];exact ih
theorem a2q{scope:Scope}{env:Env}{x:Str}(h:scope.names.lookup x=some .free):(relabel scope env).names.lookup x=some .cell\/(relabel scope env).names.lookup x=some .free:=by
 have e:(relabel scope env).names.lookup x=_:=F8 (env:=env) (names:=scope.names) (x:=x);rw [e,h,Option.map_some];split
 ·exact .inl rfl
 ·exact .inr rfl
theorem a1U{scope:Scope}{env:Env}{x:Str}(h:(relabel scope env).names.lookup x=some .cell\/(relabel scope env).names.lookup x=some .free):scope.names.lookup x=some .cell\/scope.names.lookup x=some .free:=by
 have e:(relabel scope env).names.lookup x=_:=F8 (env:=env) (names:=scope.names) (x:=x);rw [e] at h
 cases q:scope.names.lookup x with
 |none=>rw [q] at h;simp at h
 |some k =>
  rw [q,Option.map_some] at h
  by_cases hc:(k == NameKind.free && env.scope.kind == .function && env.kindOf x == some .cell)=true
  ·have:(k == NameKind.free)=true:=by
    rw [Bool.and_eq_true,Bool.and_eq_true] at hc;exact hc.1.1
   have:k = .free:=by simpa using this
   subst this;exact .inr rfl
  ·rw [if_neg hc] at h
   rcases h with h | h
   ·exact .inl h
   ·exact .inr h
def z6(cells:List (Str×Addr)):List (Str×NameKind)->List (Str×Addr)->List (Str×Addr)
 |[],acc=>acc
 |(n,k) :: r,acc=>if k == .free then z6 cells r ((n,(cells.lookup n).getD 0) :: acc) else z6 cells r acc
theorem P9{scope:Scope}{env:Env}(h:∀ n,(n,NameKind.free) ∈ scope.names->(env.cells.lookup n).isSome=true):closureFor scope env=pure (z6 env.cells scope.names []):=by
 have all:∀ (names:List (Str×NameKind)) (acc:List (Str×Addr)),(∀ n,(n,NameKind.free) ∈ names->(env.cells.lookup n).isSome=true) ->
   (forIn names acc fun x cs=>(if x.2 == NameKind.free then do let c <- cellOf env x.1;pure (ForInStep.yield ((x.1,c) :: cs)) else pure (ForInStep.yield cs):Sem (ForInStep (List (Str×Addr)))))=pure (z6 env.cells names acc):=by
  intro names
  induction names with
  |nil=>intro acc _;rfl
  |cons p r ih =>
   intro acc hp;obtain ⟨n,k⟩:=p;rw [List.forIn_cons]
   by_cases hk:(k == NameKind.free)=true
   ·have ek:k = .free:=by simpa using hk
    obtain ⟨c,hc⟩:=Option.isSome_iff_exists.mp (hp n (by rw [ek];exact List.mem_cons_self));have e1:cellOf env n=pure c:=by unfold cellOf;rw [hc]
    dsimp only;rw [if_pos hk,e1]
    have e2:z6 env.cells ((n,k) :: r) acc=z6 env.cells r ((n,c) :: acc):=by
     show (if k == .free then _ else _)=_;rw [if_pos hk,hc];rfl
    rw [e2,<- ih ((n,c) :: acc) fun m hm=>hp m (List.mem_cons_of_mem _ hm)];rfl
   ·dsimp only;rw [if_neg hk]
    have e2:z6 env.cells ((n,k) :: r) acc=z6 env.cells r acc:=by
     show (if k == .free then _ else _)=_;rw [if_neg hk]
    rw [e2,<- ih acc fun m hm=>hp m (List.mem_cons_of_mem _ hm)];rfl
 have q:=all scope.names [] h;unfold closureFor;show ((forIn scope.names [] fun x cs=>(if x.2 == NameKind.free then do let c <- cellOf env x.1;pure (ForInStep.yield ((x.1,c) :: cs)) else pure (ForInStep.yield cs):Sem (ForInStep (List (Str×Addr))))) >>= fun cs=>pure cs)=_;rw [q];rfl
theorem W6{cells:List (Str×Addr)}:∀ {names:List (Str×NameKind)} {acc:List (Str×Addr)} {n:Str} {c:Addr},(n,c) ∈ z6 cells names acc->(n,c) ∈ acc\/((n,NameKind.free) ∈ names/\(cells.lookup n).getD 0=c)
 |[],_,_,_,h=>.inl h
 |(m,k) :: r,acc,n,c,h=>by
  have h:(n,c) ∈ (if k == .free then z6 cells r ((m,(cells.lookup m).getD 0) :: acc) else z6 cells r acc):=h
  by_cases hk:(k == NameKind.free)=true
  ·rw [if_pos hk] at h;have ek:k = .free:=by simpa using hk
   rcases W6 h with q | ⟨q1,q2⟩
   ·rcases List.mem_cons.mp q with q | q
    ·cases q;exact .inr ⟨by rw [ek];exact List.mem_cons_self,rfl⟩
    ·exact .inl q
   ·exact .inr ⟨List.mem_cons_of_mem _ q1,q2⟩
  ·rw [if_neg hk] at h
   rcases W6 h with q | ⟨q1,q2⟩
   ·exact .inl q
   ·exact .inr ⟨List.mem_cons_of_mem _ q1,q2⟩
theorem V0{cells:List (Str×Addr)}:∀ {names:List (Str×NameKind)} {acc:List (Str×Addr)} {n:Str},((n,NameKind.free) ∈ names\/∃ c,(n,c) ∈ acc)->∃ c,(n,c) ∈ z6 cells names acc
 |[],_,_,h=>h.elim (fun z=>nomatch z) id
 |(m,k) :: r,acc,n,h=>by
  show ∃ c,(n,c) ∈ (if k == .free then z6 cells r ((m,(cells.lookup m).getD 0) :: acc) else z6 cells r acc)
  by_cases hk:(k == NameKind.free)=true
  ·rw [if_pos hk];refine V0 ?_
   rcases h with h | ⟨c,h⟩
   ·rcases List.mem_cons.mp h with h | h
    ·cases h;exact .inr ⟨_,List.mem_cons_self⟩
    ·exact .inl h
   ·exact .inr ⟨c,List.mem_cons_of_mem _ h⟩
  ·rw [if_neg hk];refine V0 ?_
   rcases h with h | ⟨c,h⟩
   ·rcases List.mem_cons.mp h with h | h
    ·cases h;exact absurd rfl hk
    ·exact .inl h
   ·exact .inr ⟨c,h⟩
theorem G4{α:Type}{n:Str}{c:α}:∀ {l:List (Str×α)},(n,c) ∈ l->(∀ d,(n,d) ∈ l->d=c)->l.lookup n=some c
 |[],h,_=>nomatch h
 |(m,d) :: r,h,all=>by
  rw [List.lookup_cons]
  cases hb:n == m with
  |true =>
   have e:n=m:=beq_iff_eq.mp hb;subst e;rw [all d List.mem_cons_self]
  |false =>
   rcases List.mem_cons.mp h with q | q
   ·cases q;simp at hb
   ·exact G4 q fun d' hd=>all d' (List.mem_cons_of_mem _ hd)
theorem t7:∀ (names:List (Str×NameKind)) (n:Nat) (acc:List (Str×Addr)),cellsFrom n names acc=cellsFrom n names [] ++ acc
 |[],_,_=>rfl
 |(x,k) :: r,n,acc=>by
  unfold cellsFrom;split
  ·rw [t7 r (n + 1) ((x,n) :: acc),t7 r (n + 1) [(x,n)],List.append_assoc];rfl
  ·exact t7 r n acc
theorem F4:∀ {names:List (Str×NameKind)} {n:Nat} {x:Str} {c:Addr},(x,c) ∈ cellsFrom n names []->(x,NameKind.cell) ∈ names
 |[],_,_,_,h=>nomatch h
 |(y,k) :: r,n,x,c,h=>by
  unfold cellsFrom at h
  split at h
  ·rename_i hk;have ek:k = .cell:=by simpa using hk
   rw [t7] at h
   rcases List.mem_append.mp h with q | q
   ·exact List.mem_cons_of_mem _ (F4 q)
   ·cases List.mem_singleton.mp q
    rw [ek];exact List.mem_cons_self
  ·exact List.mem_cons_of_mem _ (F4 h)
theorem U8{α:Type}{n:Str}{c d:α}:∀ {l:List (Str×α)},(l.map (·.1)).Nodup->l.lookup n=some c->(n,d) ∈ l->d=c
 |[],_,_,h=>nomatch h
 |(m,e) :: r,hn,hl,hm=>by
  have hn:(m :: r.map (·.1)).Nodup:=hn;obtain ⟨h1,h2⟩:=List.nodup_cons.mp hn;rw [List.lookup_cons] at hl
  cases hb:n == m with
  |true =>
   rw [hb] at hl;have e1:n=m:=beq_iff_eq.mp hb;subst e1
   rcases List.mem_cons.mp hm with q | q
   ·cases q;cases hl;rfl
   ·exact absurd (List.mem_map.mpr ⟨(n,d),q,rfl⟩) h1
  |false =>
   rw [hb] at hl
   rcases List.mem_cons.mp hm with q | q
   ·cases q;simp at hb
   ·exact U8 h2 hl q
def o9(X:Cx)(N':List Str)(scope:Scope)(s:Shared)(H:Hp)(fp:List Addr):Cx :=
 { X with N:=N',s₀:=s,H₀:=H,env:=compEnvC scope (cellsFrom (s.heap.objs.size + 1) scope.names (z6 X.env.cells scope.names [])) s.heap.objs.size X.env,outer:=X.stack,ex:=fp,fn:=fun x=>scope.names.lookup x == some .cell,pn:=[],xe:=fun _ _=>False }
def N4(js:List (Option Nat))(σ:St):St:=js.map fun j=>match j with
 |some j=>(σ[j]?).getD none
 |none=>none
def frB(X:Cx)(scope:Scope):Bool:=scope.names.all fun p=>p.2 != .free || X.env.kindOf p.1 == some .cell || X.env.kindOf p.1 == some .free
def atB(X:Cx)(N':List Str)(js:List (Option Nat))(scope:Scope):Bool:=(js.zip N').all fun p=>match p.1 with
 |none=>true
 |some j=>X.N[j]? == some p.2 && scope.names.lookup p.2 == some .free
structure CompOk(X:Cx)(N':List Str)(js:List (Option Nat))(scope:Scope):Prop where
 kind:scope.kind = .function
 nd:(scope.names.map (·.1)).Nodup
 frb:frB X scope=true
 len:js.length=N'.length
 atb:atB X N' js scope=true
theorem CompOk.fr{X:Cx}{N':List Str}{js:List (Option Nat)}{scope:Scope}(C:CompOk X N' js scope):∀ n,(n,NameKind.free) ∈ scope.names->X.env.kindOf n=some .cell\/X.env.kindOf n=some .free:=fun n hn=>by
 have h:=List.all_eq_true.mp C.frb (n,.free) hn;simp only [Bool.or_eq_true,bne_iff_ne,ne_eq,not_true_eq_false,false_or,beq_iff_eq] at h;exact h
theorem CompOk.at_{X:Cx}{N':List Str}{js:List (Option Nat)}{scope:Scope}(C:CompOk X N' js scope):∀ (i j:Nat),js[i]?=some (some j)->∃ x,N'[i]?=some x/\X.N[j]?=some x/\scope.names.lookup x=some .free:=fun i j hj=>by
 have hi:i < js.length:=(List.getElem?_eq_some_iff.mp hj).1;have hi':i < N'.length:=by rw [<- C.len];exact hi
 have hz:(js.zip N')[i]?=some (some j,N'[i]):=by
  rw [List.getElem?_zip_eq_some];exact ⟨hj,by simp [hi']⟩
 have h:=List.all_eq_true.mp C.atb _ (List.mem_of_getElem? hz);simp only [Bool.and_eq_true,beq_iff_eq] at h;exact ⟨N'[i],by simp [hi'],h.1,h.2⟩
section
variable {X:Cx} {pins:List (Addr×Obj)} {σ:St} {H:Hp} {s:Shared} {N':List Str} {js:List (Option Nat)} {scope:Scope} {fp:List Addr}
theorem a4e(I:Inv X pins σ H s)(C:CompOk X N' js scope)(hf:∀ b ∈ fp,S6 X pins H b)(ho:∀ b ∈ fp,∃ o,s.heap.get? b=some o) :
  Inv (o9 X N' scope s H fp) [] (N4 js σ) H { s with heap:=pushCells (s.heap.push { cls:=.type "dict",data:=.dict #[] }) scope.names }:=by
 have keep:∀ b o,s.heap.get? b=some o->(pushCells (s.heap.push { cls:=.type "dict",data:=.dict #[] }) scope.names).get? b=some o:=fun b o e=>pushCells_keeps _ _ b o (Heap.get?_push_of_some _ e);have new:=cellsFrom_ok scope.names (s.heap.push { cls:=.type "dict",data:=.dict #[] }) (s.heap.objs.size + 1) [] ⟨fun _ _ hm=>(nomatch hm),List.Pairwise.nil⟩ (by rw [Heap.size_push];exact Nat.le_refl _);rw [Heap.size_push] at new
 have old:∀ n c,(n,c) ∈ z6 X.env.cells scope.names []->X.env.cells.lookup n=some c:=fun n c h=>by
  rcases W6 h with q | ⟨q1,q2⟩
  ·exact nomatch q
  ·obtain ⟨d,hd⟩:=I.ok.has n (C.fr n q1);rw [hd] at q2;rw [hd];exact congrArg some q2
 have oldlt:∀ n c,X.env.cells.lookup n=some c->c < s.heap.objs.size:=fun n c h=>by
  obtain ⟨v,q⟩:=I.cell n c h;exact q.lt
 have mem:∀ n c,(o9 X N' scope s H fp).env.cells.lookup n=some c->(n,c) ∈ cellsFrom (s.heap.objs.size + 1) scope.names []\/X.env.cells.lookup n=some c:=fun n c h=>by
  have h:(cellsFrom (s.heap.objs.size + 1) scope.names (z6 X.env.cells scope.names [])).lookup n=some c:=h;rw [t7] at h
  rcases List.mem_append.mp (PySem.mem_of_lookup h) with q | q
  ·exact .inl q
  ·exact .inr (old n c q)
 have lt:∀ b ∈ fp,b < s.heap.objs.size:=fun b hb=>let ⟨_,e⟩:=ho b hb;Heap.lt_size e
 have fre:∀ x c,scope.names.lookup x=some .free->X.env.cells.lookup x=some c->(o9 X N' scope s H fp).env.cells.lookup x=some c:=fun x c hx hc=>by
  show (cellsFrom (s.heap.objs.size + 1) scope.names (z6 X.env.cells scope.names [])).lookup x=some c;have hm:=PySem.mem_of_lookup hx;obtain ⟨d,hd⟩:=V0 (cells:=X.env.cells) (acc:=[]) (.inl hm);have ed:∀ d',(x,d') ∈ z6 X.env.cells scope.names []->d'=c:=fun d' h'=>Option.some.inj ((old x d' h').symm.trans hc);refine G4 ?_ fun d' h'=>?_
  ·rw [t7,<- ed d hd];exact List.mem_append_right _ hd
  ·rw [t7] at h'
   rcases List.mem_append.mp h' with q | q
   ·exact absurd (U8 C.nd hx (F4 q)) (by decide)
   ·exact ed d' q
 refine ⟨⟨I.ok.mod,C.kind,I.ok.glob,I.ok.blt,Nat.le_refl _,fun x y c h1 h2=>?_,fun x hx=>?_,fun x c hx h=>?_,I.ok.hd,I.ok.frames,.inl rfl,fun b hb=>⟨Nat.ne_of_lt (lt b hb),fun x c h z=>?_⟩,fun b o e=>I.bs b o e,Nat.le_trans I.ok.bsz I.sz,fun b o e hb=>?_,fun b hb z=>?_,I.stack,I.stkFree⟩,
  rfl,I.bare,Un.kept keep,⟨_,(Heap.Ns.new s.heap (.type "dict")).keeps (pushCells_keeps _ _),fun i x v h1 h2 h3=>?_⟩,fun x c h=>?_,I.hok.fresh (Nat.le_refl _),fun x c h=>?_,fun p hp=>absurd (show p ∈ ([]:List (Addr×Obj)) from hp) (by simp),I.hok.kept keep,?_⟩
 ·rcases mem x c h1 with p1 | p1 <;> rcases mem y c h2 with p2 | p2
  ·exact name_of_addr new.apart p1 p2
  ·exact absurd (Nat.lt_of_lt_of_le (oldlt y c p2) (Nat.le_trans (Nat.le_succ _) (new.empty x c p1).2)) (Nat.lt_irrefl _)
  ·exact absurd (Nat.lt_of_lt_of_le (oldlt x c p1) (Nat.le_trans (Nat.le_succ _) (new.empty y c p2).2)) (Nat.lt_irrefl _)
  ·exact I.ok.inj x y c p1 p2
 ·rcases a1U (scope:=scope) (env:=X.env) hx with q | q
  ·exact Option.isSome_iff_exists.mp (PySem.W.cellsFrom_some scope.names _ _ (.inl q))
  ·obtain ⟨c,hc⟩:=I.ok.has x (C.fr x (PySem.mem_of_lookup q));exact ⟨c,fre x c q hc⟩
 ·have hx:scope.names.lookup x=some .cell:=by simpa [o9] using hx
  rcases mem x c h with q | q
  ·exact Nat.le_trans (Nat.le_succ _) (new.empty x c q).2
  ·
   have e:(cellsFrom (s.heap.objs.size + 1) scope.names (z6 X.env.cells scope.names [])).lookup x=some c:=h;rw [t7,List.lookup_append] at e;obtain ⟨d,hd⟩:=Option.isSome_iff_exists.mp (PySem.W.cellsFrom_some scope.names (s.heap.objs.size + 1) [] (.inl hx));rw [hd] at e;cases e;exact Nat.le_trans (Nat.le_succ _) (new.empty x _ (PySem.mem_of_lookup hd)).2
 ·rcases mem x c h with q | q
  ·have:=(new.empty x c q).2
   rw [z] at this;exact absurd (Nat.lt_of_lt_of_le (lt b hb) (Nat.le_trans (Nat.le_succ _) this)) (Nat.lt_irrefl _)
  ·exact (hf b hb).2.2.2.2.1 x c q z
 ·obtain ⟨_,_,_,h1,_⟩:=hf b hb
  rcases h1 with h1 | h1
  ·exact I.ok.noex b o e h1
  ·exact absurd (Nat.lt_of_lt_of_le (Heap.lt_size (I.ok.bs b o e).1) h1) (Nat.lt_irrefl _)
 ·obtain ⟨_,h1,h2,_⟩:=hf b hb;exact (List.mem_cons.mp (I.stkSub b z)).elim h1 h2
 ·
  obtain ⟨j,hj,hv⟩:∃ j,js[i]?=some (some j)/\(σ[j]?).getD none=some v:=by
   have h2:(js.map fun j=>match j with | some j=>(σ[j]?).getD none | none=>none)[i]?=some (some v):=h2;rw [List.getElem?_map] at h2
   cases e:js[i]? with
   |none=>rw [e] at h2;cases h2
   |some o =>
    rw [e] at h2
    cases o with
    |none=>cases h2
    |some j=>exact ⟨j,rfl,Option.some.inj h2⟩
  obtain ⟨y,e1,e2,e3⟩:=C.at_ i j hj;have exy:y=x:=Option.some.inj (e1.symm.trans (show N'[i]?=some x from h1));rw [exy] at e2 e3
  have hs:σ[j]?=some (some v):=by
   cases e:σ[j]? with
   |none=>rw [e] at hv;cases hv
   |some o=>rw [e] at hv;exact congrArg some hv
  have kx:=C.fr x (PySem.mem_of_lookup e3);obtain ⟨m,hn,hl⟩:=I.loc;obtain ⟨u,r,l⟩:=hl j x v e2 hs (kx.elim (fun z=>.inr (.inl z)) fun z=>.inr (.inr z));refine ⟨u,r,.inr ⟨a2q e3,?_⟩⟩
  rcases l with ⟨k,_⟩ | ⟨_,c,hc,hcell⟩
  ·rcases kx with z | z
   ·rw [z] at k;cases k
   ·rw [z] at k;cases k
  ·exact ⟨c,fre x c e3 hc,hcell.keeps keep⟩
 ·rcases mem x c h with q | q
  ·exact ⟨none,(new.empty x c q).1⟩
  ·obtain ⟨v,z⟩:=I.cell x c q;exact ⟨v,z.keeps keep⟩
 ·rcases mem x c h with q | q
  ·exact I.hok.fresh (Nat.le_trans (Nat.le_succ _) (new.empty x c q).2)
  ·exact I.freeC x c q
 ·show (N4 js σ).length=N'.length;unfold N4;rw [List.length_map,C.len]
theorem b0C{M:Model}{A:Around}{E:Value->Shared->Prop}{env:Env}{cl:List (Str×Addr)}{Q:Env->Shared->Prop}
  (h:Q (newEnv scope s.heap.objs.size env.globals (cellsFrom (s.heap.objs.size + 1) scope.names cl) env.qual none .none (some env) builtinsNs) { s with heap:=pushCells (s.heap.push { cls:=.type "dict",data:=.dict #[] }) scope.names }) :
  wpAny M A (newFunctionEnv scope env.globals cl [] env.qual none .none (some env)) Q E s:=by
 simp only [newFunctionEnv,Option.isSome_some,if_true];refine wpAny_bind (wpAny_alloc ?_);refine wpAny_bind (wpAny_layCells _ (fun name kind cells=>by cases hkc:kind == NameKind.cell <;> simp [hkc]) _ _ _ _ ?_);rw [show ({ s with heap:=s.heap.push { cls:=.type "dict",data:=.dict #[] } }:Shared).heap.objs.size=s.heap.objs.size + 1 from Heap.size_push ..];simp only [List.forIn_nil];exact wpAny_bind (wpAny_pure (wpAny_pure h))
def PF(X:Cx)(ifs:List Expr)(t:TT):Prop :=
 ∀ (pins:List (Addr×Obj)) (s:Shared) (σ:St) (H:Hp) (Q:Bool->Hp->Prop),Inv X pins σ H s->t σ H Q ->
  wpAny (model X.prog X.w) X.A (forIn ifs true fun c r=>if r=true then do let ok <- isTrue c X.env (eval c X.env);pure (ForInStep.yield ok) else pure (ForInStep.yield r)) (TP X pins σ Q) X.xe s
def c0d:TT:=fun _ H Q=>Q true H
theorem b8a:PF X [] c0d:=fun _ _ _ H _ I h=>wpAny_tests_nil ⟨H,I,h⟩
theorem b7m{c:Expr}{t:TT}(h:PT X c t):PF X [c] t:=fun pins s σ H Q I q=>wpAny_tests_one (h pins s σ H Q I q)
theorem a2g{prog:Program}{w:World}{A:Around}{R:Result->Shared->Prop}{s:Shared}{elt target iter:Expr}{ifs:List Expr}{scope:Scope}{pos:Pos}{it acc:Value}{env:Env}(I:Nat->Shared->Prop)
  (turn:∀ n s,I n s->wpAny (model prog w) A (pyNext it) (fun r s₁=>match r with
   |none=>R (.ok .next) s₁
   |some v=>wpAny (model prog w) A (letOwnedTupleGo target it v) (fun _ s₀=>wpAny (model prog w) A (assign target env v) (fun _ s₂ =>
     wpAny (model prog w) A (forIn ifs true fun c r=>if r=true then do let ok <- isTrue c env (eval c env);pure (ForInStep.yield ok) else pure (ForInStep.yield r)) (fun ok s₃ =>
      if ok=true then wpAny (model prog w) A (eval elt env) (fun x s₄ =>
       wpAny (model prog w) A (call (.builtin "list.append") [acc,x]) (fun _ s₅=>∃ m,m < n/\I m s₅) (notedBy (model prog w) A env fun e s'=>R (.error e) s') s₄) (notedBy (model prog w) A env fun e s'=>R (.error e) s') s₃
      else ∃ m,m < n/\I m s₃) (notedBy (model prog w) A env fun e s'=>R (.error e) s') s₂) (notedBy (model prog w) A env fun e s'=>R (.error e) s') s₀) (notedBy (model prog w) A env fun e s'=>R (.error e) s') s₁) (notedBy (model prog w) A env fun e s'=>R (.error e) s') s)
  (n:Nat) (h:I n s):codeAny (model prog w) A (.compLoop (.ListComp elt [⟨target,iter,ifs,0⟩] scope pos) 0 it acc env) R s:=by
 refine codeAny_loop rfl I (fun n s hI=>?_) n h;show wpAny _ A ((compTurn (.ListComp elt [⟨target,iter,ifs,0⟩] scope pos) 0 it acc env).onRaise (fun x=>do noteFrame x env;theTreesLotGoes x)) _ _ s;refine wpAny_noted ?_;rw [compTurn_list];refine wpAny_bind (wpAny_standAt (wpAny_bind (wpAny_mono (turn n s hI) (fun r s₁ h₁=>?_) fun _ _ h'=>h')))
 cases r with
 |none=>exact wpAny_pure h₁
 |some v =>
  refine wpAny_bind (wpAny_mono h₁ (fun _ s₀ h₀=>?_) fun _ _ h'=>h');refine wpAny_bind (wpAny_mono h₀ (fun _ s₂ h₂=>wpAny_bind (wpAny_mono h₂ (fun ok s₃ h₃=>?_) fun _ _ h'=>h')) fun _ _ h'=>h')
  cases ok with
  |false=>exact wpAny_pure ⟨rfl,h₃⟩
  |true =>
   exact wpAny_bind (wpAny_bind (wpAny_mono h₃ (fun x s₄ h₄=>wpAny_bind (wpAny_mono h₄ (fun _ s₅ h₅=>wpAny_pure (wpAny_pure ⟨rfl,h₅⟩)) fun _ _ h'=>h')) fun _ _ h'=>h'))
def a9L(J:It)(g:TG)(tf:TT)(te:TE)(D:Addr)(σ0:St)(H1:Hp)(Q:Hp->Prop):Prop :=
 ∃ W:Nat->Nat->St->Hp->Prop,(∃ m,W 0 m σ0 (upd H1 D (.lst [])))/\∀ i m σ H,W i m σ H ->
  (J.stop i H/\Q H)\/(J.go i H/\∀ x H2,J.yld i H x H2->g x σ H2 fun σ2 H3=>tf σ2 H3 fun b H4 =>
   if b=true then te σ2 H4 fun y H5=>∃ zs,H5 D=some (.lst zs)/\zs.length < sizeLine/\∃ m',m' < m/\W (i + 1) m' σ2 (upd H5 D (.lst (zs ++ [y])))
   else ∃ m',m' < m/\W (i + 1) m' σ2 H4)
def a6Z(js:List (Option Nat))(wi:TI)(g:Shared->Hp->List Addr->TG)(tf:Shared->Hp->List Addr->TT)(te:Shared->Hp->List Addr->TE):TE:=fun σ H Q=>wi σ H fun J H1=>∀ (D:Addr),H1 D=none->∀ (s0:Shared) (H0:Hp) (fp:List Addr),a9L J (g s0 H0 fp) (tf s0 H0 fp) (te s0 H0 fp) D (N4 js σ) H1 fun H'=>Q (.ref D) H'
theorem a3y{tg iter elt:Expr}{ifs:List Expr}{pos:Pos}{J:It}{it:Addr}{tn:Nat->Heap->Prop}{g:Shared->Hp->TG}{tf:Shared->Hp->TT}{te:Shared->Hp->TE}{E:Value->Shared->Prop}{RR:Value->Addr->Result->Shared->Prop}{Q:Addr->Hp->Prop}
  (hc:X.calm=true) (C:CompOk X N' js scope) (I:Inv X pins σ H s) (T:a3D X.prog X.w X.K tg J fp it tn) (st:tn 0 s.heap) (hf:∀ b ∈ fp,S6 X pins H b)
  (body:∀ (s0:Shared) (H0:Hp),PG (o9 X N' scope s0 H0 fp) tg (g s0 H0)/\PF (o9 X N' scope s0 H0 fp) ifs (tf s0 H0)/\PE (o9 X N' scope s0 H0 fp) elt (te s0 H0))
  (h:∀ D,H D=none->∀ (s0:Shared) (H0:Hp),a9L J (g s0 H0) (tf s0 H0) (te s0 H0) D (N4 js σ) H (Q D))
  (hRR:∀ (D C:Addr) (H':Hp) (s':Shared) (m:Str->Option Value),s'.heap.Ns C m->s.heap.objs.size <= C->(∀ p ∈ X.pn ++ pins,p.1 ≠ C)->H' C=none->C ≠ X.env.locals->(∀ x c,X.env.cells.lookup x=some c->c ≠ C)->(X.s₀.heap.objs.size <= C)->Inv X pins σ H' s'->Q D H'->RR (.ref D) C (.ok .next) s') :
  wpAny (model X.prog X.w) X.A (newList []) (fun acc s₃=>wpAny (model X.prog X.w) X.A (newFunctionEnv scope X.env.globals (z6 X.env.cells scope.names []) [] X.env.qual none .none (some X.env)) (fun cenv s₄ =>
   codeAny (model X.prog X.w) X.A (.compStart (.ListComp elt [⟨tg,iter,ifs,0⟩] scope pos) 0 (.ref it) acc { cenv with scope:=relabel scope X.env }) (RR acc cenv.locals) s₄) E s₃) E s:=by
 have hfr:H s.heap.objs.size=none:=I.hok.fresh (Nat.le_refl _)
 have I1:Inv X pins σ (upd H s.heap.objs.size (.lst [])) { s with heap:=s.heap.push { cls:=.type "list",dict:=none,data:=.seq ([]:List Value).toArray } } :=
  I.laid (t':=s.toks) (fun b u e=>Heap.get?_push_of_some _ e) (Nat.le_refl _) ⟨Nat.zero_le _,[],_,.nil,Heap.get?_push_size _ rfl⟩
 refine wpAny_newObj_type (b0C ?_);have st1:tn 0 (s.heap.push { cls:=.type "list",dict:=none,data:=.seq ([]:List Value).toArray }):=T.keep _ _ _ st fun b hb o e=>Heap.get?_push_of_some _ e;have lt:∀ b ∈ fp,b < s.heap.objs.size:=fun b hb=>let ⟨_,e,_⟩:=T.obj _ _ st b hb;Heap.lt_size e
 have hf1:∀ b ∈ fp,S6 X pins (upd H s.heap.objs.size (.lst [])) b:=fun b hb=>⟨by rw [k6 (Nat.ne_of_lt (lt b hb))];exact (hf b hb).1,(hf b hb).2⟩
 have I2:=a4e (fp:=fp) I1 C hf1 (fun b hb=>let ⟨o,e,_⟩:=T.obj _ _ st1 b hb;⟨o,e⟩);have st2:tn 0 (pushCells ((s.heap.push { cls:=.type "list",dict:=none,data:=.seq ([]:List Value).toArray }).push { cls:=.type "dict",data:=.dict #[] }) scope.names):=T.keep _ _ _ st1 fun b hb o e=>pushCells_keeps _ _ b o (Heap.get?_push_of_some _ e);obtain ⟨W,⟨m0,w0⟩,turn⟩:=h _ hfr { s with heap:=s.heap.push { cls:=.type "list",dict:=none,data:=.seq ([]:List Value).toArray } } (upd H s.heap.objs.size (.lst []));obtain ⟨bg,bf,be⟩:=body { s with heap:=s.heap.push { cls:=.type "list",dict:=none,data:=.seq ([]:List Value).toArray } } (upd H s.heap.objs.size (.lst []));generalize hs1:({ s with heap:=s.heap.push { cls:=.type "list",dict:=none,data:=.seq ([]:List Value).toArray } }:Shared)=s1 at I1 I2 st2 bg bf be turn ⊢;have es1:s1.heap=s.heap.push { cls:=.type "list",dict:=none,data:=.seq ([]:List Value).toArray }:=by rw [<- hs1]
 have sz1:s1.heap.objs.size=s.heap.objs.size + 1:=by rw [es1,Heap.size_push]
 rw [<- es1] at st2
 have stat:∀ {H':Hp},(∀ b ∈ fp,H' b=none)->∀ b ∈ fp,S6 (o9 X N' scope s1 (upd H s.heap.objs.size (.lst [])) fp) [] H' b:=fun hn b hb=>by
  refine ⟨hn b hb,(I2.ok.exf b hb).1,?_,.inl hb,(I2.ok.exf b hb).2,fun p hp=>absurd (show p ∈ ([]:List (Addr×Obj)) from hp) (by simp)⟩;exact I2.ok.exfs b hb
 have outE:∀ {α:Type} {t:Sem α} {QQ:α->Shared->Prop} {E':Value->Shared->Prop} {s':Shared},wpAny (model X.prog X.w) X.A t QQ (fun _ _=>False) s'->wpAny (model X.prog X.w) X.A t QQ E' s':=fun q=>wpAny_mono q (fun _ _ z=>z) fun _ _ z=>z.elim
 have loop:∀ s2:Shared,s2={ s1 with heap:=pushCells (s1.heap.push { cls:=.type "dict",data:=.dict #[] }) scope.names } ->
   codeAny (model X.prog X.w) X.A (.compLoop (.ListComp elt [⟨tg,iter,ifs,0⟩] scope pos) 0 (.ref it) (.ref s.heap.objs.size) (o9 X N' scope s1 (upd H s.heap.objs.size (.lst [])) fp).env) (RR (.ref s.heap.objs.size) s1.heap.objs.size) s2:=by
  rintro s2 rfl
  refine a2g (fun n s'=>∃ i σ' H',Inv (o9 X N' scope s1 (upd H s.heap.objs.size (.lst [])) fp) [] σ' H' s'/\tn i s'.heap/\(∀ b ∈ fp,H' b=none)/\W i n σ' H') ?_ m0 ⟨0,_,_,I2,st2,fun b hb=>(hf1 b hb).1,w0⟩
  rintro n s3 ⟨i,σ3,H3,I3,st3,fr3,w3⟩
  rcases turn i n σ3 H3 w3 with ⟨stop,q⟩ | ⟨go,step⟩
  ·refine outE (thn (T.done (o9 X N' scope s1 (upd H s.heap.objs.size (.lst [])) fp) rfl rfl rfl hc i [] s3 σ3 H3 (fun _ _=>False) I3 (stat fr3) st3 stop) fun r s4 zz0=>?_);obtain ⟨hr,I4⟩:=zz0;subst hr;have u4:Un (frs X.stack) fp (upd H s.heap.objs.size (.lst [])) H3 s1.heap s4.heap:=I4.base
   have IX:Inv X pins σ H3 s4:=I1.call' I4.os u4 I4.hok I4.bare fun b hb=>by
    obtain ⟨_,f1,_,f3,f4,f5⟩:=hf1 b hb;exact ⟨f3,f1,f4,f5⟩
   obtain ⟨m,hn,_⟩:=I4.loc;have cle:s.heap.objs.size <= s1.heap.objs.size:=by rw [sz1];exact Nat.le_succ _
   have clt:∀ b,b < s1.heap.objs.size->b ≠ s1.heap.objs.size:=fun b hb=>Nat.ne_of_lt hb;refine hRR _ s1.heap.objs.size H3 s4 m hn cle (fun p hp=>clt _ (Heap.lt_size (I1.pin p hp).1)) I4.free (Ne.symm (clt _ I1.lt)) (fun x c e=>?_) (Nat.le_trans I.sz cle) IX q;obtain ⟨v,z⟩:=I1.cell x c e;exact clt _ z.lt
  ·refine outE (thn (T.item (o9 X N' scope s1 (upd H s.heap.objs.size (.lst [])) fp) rfl rfl rfl hc i [] s3 σ3 H3 (fun _ _=>False) I3 (stat fr3) st3 go) fun r s4 zz0=>?_);obtain ⟨u,hr,h4⟩:=zz0;subst hr;refine outE (thn h4 fun _ s5 zz0=>?_);obtain ⟨x,H5,I5,r5,y5,st5,fr5⟩:=zz0;have I5':=I5.pinned (stat fr5) (T.obj _ _ st5);refine outE (thn (bg _ s5 σ3 H5 x u _ I5' r5 (step x H5 y5)) fun _ s6 zz0=>?_);obtain ⟨σ6,H6,I6,q6⟩:=zz0;refine outE (thn (bf _ s6 σ6 H6 _ I6 q6) fun ok s7 zz0=>?_);obtain ⟨H7,I7,q7⟩:=zz0
   have again:∀ {s8:Shared} {σ8:St} {H8:Hp} {m':Nat},Inv (o9 X N' scope s1 (upd H s.heap.objs.size (.lst [])) fp) ([] ++ V6 fp s5.heap) σ8 H8 s8->m' < n->W (i + 1) m' σ8 H8 ->
     ∃ m,m < n/\∃ i σ' H',Inv (o9 X N' scope s1 (upd H s.heap.objs.size (.lst [])) fp) [] σ' H' s8/\tn i s8.heap/\(∀ b ∈ fp,H' b=none)/\W i m σ' H':=fun {s8 σ8 H8 m'} I8 hm w8=>by
    refine ⟨m',hm,i + 1,σ8,H8,I8.unpinned,T.keep _ _ _ st5 fun b hb o e=>(I8.pin (b,o) (List.mem_append_right _ (List.mem_append_right _ (K5 hb e)))).1,fun b hb=>?_,w8⟩;obtain ⟨o,e,d⟩:=T.obj _ _ st5 b hb;exact (I8.pin (b,o) (List.mem_append_right _ (List.mem_append_right _ (K5 hb e)))).2.1
   cases ok with
   |false =>
    rw [if_neg Bool.false_ne_true] at q7 ⊢;obtain ⟨m',hm,w8⟩:=q7;exact again I7 hm w8
   |true =>
    rw [if_pos rfl] at q7 ⊢;refine outE (thn (be _ s7 σ6 H7 _ I7 q7) fun y s8 zz0=>?_);obtain ⟨v,H8,I8,r8,zs,hz,hlen,m',hm,w8⟩:=zz0;obtain ⟨hzl,its,k,rv,e8⟩:=I8.hok _ _ hz;refine outE (PyProof.Rows.append_at (hsz:=by rw [List.size_toArray,<- rv.length];exact hzl) e8 fun h9 sb e9=>?_);rw [List.push_toArray] at e9
    have I9:Inv (o9 X N' scope s1 (upd H s.heap.objs.size (.lst [])) fp) ([] ++ V6 fp s5.heap) σ6 (upd H8 s.heap.objs.size (.lst (zs ++ [v]))) { s8 with heap:=h9 } :=
     I8.write (t':=s8.toks) (by rw [hz];trivial) (.inl rfl) (fun b o hb e=>(sb.2 b hb).trans e) ⟨_,e9⟩ ⟨by rw [List.length_append,List.length_singleton];exact hlen,its ++ [y],k + 1,rv.append (.cons r8 .nil),e9⟩
    exact again I9 hm w8
 show codeAny (model X.prog X.w) X.A (.compStart (.ListComp elt [⟨tg,iter,ifs,0⟩] scope pos) 0 (.ref it) (.ref s.heap.objs.size) (o9 X N' scope s1 (upd H s.heap.objs.size (.lst [])) fp).env) (RR (.ref s.heap.objs.size) s1.heap.objs.size) { s1 with heap:=pushCells (s1.heap.push { cls:=.type "dict",data:=.dict #[] }) scope.names };exact codeAny_compStart_list (loop _ rfl) (T.self X.A 0 _ _ _ st2 (loop _ rfl))
theorem D7{α:Type}{n:Str}{c:α}:∀ {l:List (Str×α)},(l.map (·.1)).Nodup->(n,c) ∈ l->l.lookup n=some c
 |[],_,h=>nomatch h
 |(m,e) :: r,hn,hm=>by
  have hn:(m :: r.map (·.1)).Nodup:=hn;obtain ⟨h1,h2⟩:=List.nodup_cons.mp hn;rw [List.lookup_cons]
  rcases List.mem_cons.mp hm with q | q
  ·cases q;simp
  ·have hne:(n == m)=false:=by
    cases hb:n == m with
    |false=>rfl
    |true=>exact absurd (List.mem_map.mpr ⟨(n,c),q,beq_iff_eq.mp hb⟩) h1
   rw [hne];exact D7 h2 q
variable {tg iter elt:Expr} {ifs:List Expr} {pos:Pos} {wi:TI} {g:Shared->Hp->List Addr->TG} {tf:Shared->Hp->List Addr->TT} {te:Shared->Hp->List Addr->TE}
theorem b3d(hc:X.calm=true)(C:CompOk X N' js scope)(hi:PI X tg iter wi)
  (body:∀ (s0:Shared) (H0:Hp) (fp:List Addr),PG (o9 X N' scope s0 H0 fp) tg (g s0 H0 fp)/\PF (o9 X N' scope s0 H0 fp) ifs (tf s0 H0 fp)/\PE (o9 X N' scope s0 H0 fp) elt (te s0 H0 fp))
  (hs:∀ x,foldedSetIterable iter X.env x=pure x:=by intro _;rfl):PE X (.ListComp elt [⟨tg,iter,ifs,0⟩] scope pos) (a6Z js wi g tf te):=by
 intro pins s σ H Q I h;rw [eval_ListComp];have hcl:closureFor scope X.env=pure (z6 X.env.cells scope.names []):=P9 fun n hn=>Option.isSome_iff_exists.mpr (I.ok.has n (C.fr n hn));refine wpAny_comprehension_free (use:=none) rfl hs hcl C.kind (fun x hx hl=>D7 C.nd (by rw [<- hl];exact hx)) (thn (hi pins s σ H _ I h) fun v s1 h1=>thn h1 fun itv s2 h2=>?_);obtain ⟨it,fp,tn,J,H2,e,I2,T,st2,f2,q⟩:=h2;subst e;refine a3y (RR:=fun acc C=>compPost (model X.prog X.w) X.A X.xe none (EP X pins σ Q) acc C) hc C I2 T st2 f2 (g:=fun s0 H0=>g s0 H0 fp) (tf:=fun s0 H0=>tf s0 H0 fp) (te:=fun s0 H0=>te s0 H0 fp) (fun s0 H0=>body s0 H0 fp) (Q:=fun D H'=>Q (.ref D) H') (fun D hD s0 H0=>q D hD s0 H0 fp) ?_;intro D Ca H' s' m hn hle hp hC hL hcel hs0 I' q';exact ⟨m,hn,fun h' hs'=>⟨.ref D,H',I'.turned (t':=s'.toks) (it:=Ca) (fun b o hb e=>(hs'.2 b hb).trans e) hC hL (.inr hs0) hcel hp,rfl,q'⟩⟩
theorem b2r{i:Nat}{x:Str}{px cpos:Pos}(hc:X.calm=true)(C:CompOk X N' js scope)(hi:PI X tg iter wi)
  (body:∀ (s0:Shared) (H0:Hp) (fp:List Addr),PG (o9 X N' scope s0 H0 fp) tg (g s0 H0 fp)/\PF (o9 X N' scope s0 H0 fp) ifs (tf s0 H0 fp)/\PE (o9 X N' scope s0 H0 fp) elt (te s0 H0 fp))
  (hN:X.N.Nodup) (hix:X.N[i]?=some x) (hx:Loc X.env.scope x)
  (hsw:swapsWith (.ListComp elt [⟨tg,iter,ifs,0⟩] scope cpos) (some (.Name x px)) pos.line X.env=pure true:=by rfl) (hf:X.fn x=true\/X.env.scope.names.lookup x=some .local:=by trivial)
  (hs:∀ x,foldedSetIterable iter X.env x=pure x:=by intro _;rfl):PS X (.Assign [.Name x px] (.ListComp elt [⟨tg,iter,ifs,0⟩] scope cpos) pos) (a7D (a6Z js wi g tf te) (a2K i)):=by
 intro pins s σ H D0 I h;rw [exec_Assign_Name_used _ _ _ _ hsw];refine wpAny_bind (wpAny_standAt (wpAny_bind ?_));show wpAny _ X.A (do let _ <- comprehension (.ListComp elt [⟨tg,iter,ifs,0⟩] scope cpos) scope X.env _ (newList []) false (eval iter X.env) (some (assign (.Name x px) X.env))) _ _ s;have hcl:closureFor scope X.env=pure (z6 X.env.cells scope.names []):=P9 fun n hn=>Option.isSome_iff_exists.mpr (I.ok.has n (C.fr n hn))
 refine wpAny_bind (wpAny_mono (wpAny_comprehension_free (use:=some (assign (.Name x px) X.env)) (Q:=fun _ s'=>SP X pins D0 .next s') rfl hs hcl C.kind (fun x hx hl=>D7 C.nd (by rw [<- hl];exact hx)) (thn (hi pins s σ H _ I h) fun v s1 h1=>thn h1 fun itv s2 h2=>?_))
  (fun _ s' hq=>wpAny_pure (wpAny_pure hq)) fun _ _ e=>e)
 obtain ⟨it,fp,tn,J,H2,e,I2,T,st2,f2,q⟩:=h2;subst e;refine a3y (RR:=fun acc C=>compPost (model X.prog X.w) X.A X.xe (some (assign (.Name x px) X.env)) (fun _ s'=>SP X pins D0 .next s') acc C) hc C I2 T st2 f2 (g:=fun s0 H0=>g s0 H0 fp) (tf:=fun s0 H0=>tf s0 H0 fp) (te:=fun s0 H0=>te s0 H0 fp) (fun s0 H0=>body s0 H0 fp) (Q:=fun D H'=>D0.nx (σ.set i (some (.ref D))) H') (fun D hD s0 H0=>q D hD s0 H0 fp) ?_;intro D Ca H' s' m hn hle hp hC hL hcel hs0 I' q';show wpAny _ X.A (assign (.Name x px) X.env (.ref D)) _ _ _;refine wpAny_assign_Name (a1d I' hN hix hx (v:=.ref D) rfl (fun s'' I'' hsb=>?_) hf);obtain ⟨a,sb,ha⟩:=hsb
 have nCa:Ca ≠ a:=by
  rcases ha with z | z
  ·rw [z];exact hL
  ·exact fun w=>hcel x a z w.symm
 exact ⟨m,hn.sameBut sb nCa,fun h' hs'=>⟨σ.set i (some (.ref D)),H',I''.turned (t':=s''.toks) (it:=Ca) (fun b o hb e=>(hs'.2 b hb).trans e) hC hL (.inr hs0) hcel hp,q'⟩⟩
end
end L2
namespace L2
open PySem PySem.Spec PyProof.Rows
section
variable {prog:Program} {w:World} {A:Around} {E:Value->Shared->Prop} {s:Shared}
theorem T5{it l:Addr}{i:Nat}{items:Array Value}{x:Value}{Q:Value->Shared->Prop}(hit:s.heap.IsTupleIter it l i)
  (hl:s.heap.IsTuple l items) (hx:items[i]?=some x)
  (hQ:∀ h',h'.IsTupleIter it l (i + 1)->Heap.SameBut it s.heap h'->Q x { s with heap:=h' }) :
  wpAny (model prog w) A (Builtin.SmallTypes.nextOf (.ref it)) Q E s:=by
 obtain ⟨o,ho,hc,hd⟩:=id hit;obtain ⟨ol,hol,_,nl,hdl⟩:=hl;unfold Builtin.SmallTypes.nextOf
 refine wpAny_bind (wpAny_callSpecial?_slot (name:=Str.ofString "__next__") hit.typeIs F.slot_tuple_iterator_next
  (wpAny_call_entry F.slot_tuple_iterator_next hit.typeIs F.entry_tuple_iterator_next ?_ (F.args_tuple_iterator_next_1 _)))
 show wpAny _ _ (field (.ref it) 0 >>= _) _ _ s;refine wpAny_bind (wpAny_field ho hd (x:=.ref l) rfl ?_);show wpAny _ _ (if (Value.ref l == Value.none)=true then _ else _) _ _ s;rw [if_neg (show ¬ ((Value.ref l == Value.none)=true) from Bool.false_ne_true)];show wpAny _ _ (field (.ref it) 1 >>= _) _ _ s;refine wpAny_bind (wpAny_field ho hd (x:=.int i 0) rfl ?_);show wpAny _ _ (seqItems? (.ref l) >>= _) _ _ s;refine wpAny_bind (wpAny_seqItems hol hdl ?_);simp only [Int.toNat_natCast,hx];refine wpAny_bind (wpAny_setField ho hd (by simp) (wpAny_pure ⟨x,rfl,wpAny_pure (hQ _ ?_ (Heap.SameBut.update ..))⟩))
 exact ⟨_,Heap.get?_update_self _ ho (Obj.isFreed_of_fields (Obj.data_mapFields hd _)),(Obj.cls_mapFields ..).trans hc,by
  rw [Obj.data_mapFields hd];simp [rawInt]⟩
theorem W0{it l:Addr}{i:Nat}{items:Array Value}{Q:Value->Shared->Prop}(hh:A.handled=none)
  (hit:s.heap.IsTupleIter it l i) (hl:s.heap.IsTuple l items) (hx:items[i]?=none)
  (hE:∀ h' e,Heap.ExtBut it s.heap h'->(∃ o,h'.get? e=some o/\o.cls = .type "StopIteration")->E (.ref e) { s with heap:=h' }) :
  wpAny (model prog w) A (Builtin.SmallTypes.nextOf (.ref it)) Q E s:=by
 obtain ⟨o,ho,hc,hd⟩:=id hit;obtain ⟨ol,hol,_,nl,hdl⟩:=hl;unfold Builtin.SmallTypes.nextOf
 refine wpAny_bind (wpAny_callSpecial?_slot (name:=Str.ofString "__next__") hit.typeIs F.slot_tuple_iterator_next
  (wpAny_call_entry F.slot_tuple_iterator_next hit.typeIs F.entry_tuple_iterator_next ?_ (F.args_tuple_iterator_next_1 _)))
 show wpAny _ _ (field (.ref it) 0 >>= _) _ _ s;refine wpAny_bind (wpAny_field ho hd (x:=.ref l) rfl ?_);show wpAny _ _ (if (Value.ref l == Value.none)=true then _ else _) _ _ s;rw [if_neg (show ¬ ((Value.ref l == Value.none)=true) from Bool.false_ne_true)];show wpAny _ _ (field (.ref it) 1 >>= _) _ _ s;refine wpAny_bind (wpAny_field ho hd (x:=.int i 0) rfl ?_);show wpAny _ _ (seqItems? (.ref l) >>= _) _ _ s;refine wpAny_bind (wpAny_seqItems hol hdl ?_);simp only [Int.toNat_natCast,hx];refine wpAny_bind (wpAny_rule (wpAny_bind (wpAny_setField ho hd (by simp) ?_)));show wpAny _ _ (newExc (.type "StopIteration") [] >>= _) _ _ _;refine wpAny_bind ?_;simp only [newExc,newTuple];refine wpAny_bind (wpAny_newObj_type ?_ (by size_fits));refine wpAny_bind (m:=firstArgMember _ _) (wpAny_of_eq (a:=Value.none) (by first | rfl | (simp only [firstArgMember];rfl)) ?_);refine wpAny_newObj_type ?_ (by size_fits);simp only [raiseNew];refine wpAny_bind (wpAny_handled ?_)
 first | rw [show A.in1.handled=none from hh] | rw [hh]
 refine wpAny_bind (wpAny_pure (wpAny_throw ?_));exact hE _ _ (((Heap.SameBut.update ..).extBut.push _).push _) ⟨_,Heap.get?_push_size _ rfl,rfl⟩
end
theorem a3A{prog:Program}{w:World}{A:Around}(hh:A.handled=none)(it l:Addr)(hne:l ≠ it)(items:Array Value) :
  Draws prog w A it [it,l] items.size (fun i v=>items[i]?=some v) (fun i h=>h.IsTupleIter it l i/\h.IsTuple l items) where
 live:=fun _ _ st=>let ⟨o,ho,_⟩:=st.1;⟨o,ho⟩
 frame:=fun _ _ _ st hk=>⟨st.1.at fun o e=>hk it (by simp) o e,let ⟨o,ho,r⟩:=st.2;⟨o,hk l (by simp) o ho,r⟩⟩
 item:=fun i s Q E hi st hQ=>by
  refine T5 st.1 st.2 (x:=items[i]) (by simp [hi]) fun h' hit hs=>?_;exact hQ _ h' s.toks (by simp [hi]) ⟨hit,st.2.extBut hs.extBut hne⟩ hs
 done:=fun s Q E st hE=>W0 hh st.1 st.2 (by simp) hE
theorem N5(l:Addr)(items:Array Value)(n:Nat)(dct:Option Addr)(sl:Array (Option Value)) :
  Meets (Builtin.«enumerate.__new__» ⟨[.type "enumerate",.ref l],[]⟩) (fun _ R s=>s.heap.get? l=some { cls:=.type "tuple",dict:=dct,data:=.seq items n,slots:=sl } /\
   R (.ok (.ret (.ref (s.heap.push { cls:=.type "tuple_iterator",data:=.fields #[.ref l,.int 0 0] }).objs.size)))
    { s with heap:=(s.heap.push { cls:=.type "tuple_iterator",data:=.fields #[.ref l,.int 0 0] }).push { cls:=.type "enumerate",data:=.fields #[.none,.bool false,.ref s.heap.objs.size,rawInt 0,.none,.none] } }) :=
 .of_wp fun prog w A R s h=>by
  obtain ⟨hp,g,d,tk,os⟩:=s;obtain ⟨hl,h⟩:=h;have hsub:=sub_enumerate;have hL:Heap.IsTuple (Shared.heap ⟨hp,g,d,tk,os⟩) l items:=⟨_,hl,rfl,n,rfl⟩
  wp_walk using PySem.AutoSeq1.wpAny_loadPart' hl
  refine wpAny_stack_any fun st=>wpAny_pure ?_;split
  ·rename_i c _ _ _ _ _
   cases (c == Value.type "enumerate")
   ·wp_walk using PySem.AutoSeq1.wpAny_loadPart' hl,wpAny_pyIter_tuple hL
    exact ⟨_,rfl,h⟩
   ·wp_walk using PySem.AutoSeq1.wpAny_loadPart' hl,wpAny_pyIter_tuple hL
    exact ⟨_,rfl,h⟩
  ·wp_walk using PySem.AutoSeq1.wpAny_loadPart' hl,wpAny_pyIter_tuple hL
   exact ⟨_,rfl,h⟩
theorem M5{prog:Program}{w:World}{A:Around}{E:Value->Shared->Prop}{s:Shared}{l:Addr}{items:Array Value}{Q:Value->Shared->Prop}(hL:s.heap.IsTuple l items)
  (h:∀ h',IsEnum h' (s.heap.objs.size + 1) s.heap.objs.size 0 .none->h'.IsTupleIter s.heap.objs.size l 0->h'.objs.size=s.heap.objs.size + 2 ->
   (∀ b o,s.heap.get? b=some o->h'.get? b=some o)->Q (.ref (s.heap.objs.size + 1)) { s with heap:=h' }) :
  wpAny (model prog w) A (call (.type "enumerate") [.ref l]) Q E s:=by
 obtain ⟨⟨c,dct,dt,sl⟩,hl,hc,n,hd⟩:=hL
 replace hc:c = .type "tuple":=hc
 replace hd:dt = .seq items n:=hd
 subst hc hd
 refine callType_new F.called_enumerate (by decide) (F.typeCall_enumerate_1 _) (F.newCall_enumerate_1 _) (fun obj=>F.args_object_init_2 obj _) F.entry_enumerate_new
  (N5 l items n dct sl) ⟨hl,?_⟩
 have hz:(s.heap.push { cls:=.type "tuple_iterator",data:=.fields #[.ref l,.int 0 0] }).objs.size=s.heap.objs.size + 1:=Heap.size_push ..;show _/\_;rw [hz]
 have he:IsEnum ((s.heap.push { cls:=.type "tuple_iterator",data:=.fields #[.ref l,.int 0 0] }).push
   { cls:=.type "enumerate",data:=.fields #[.none,.bool false,.ref s.heap.objs.size,rawInt 0,.none,.none] }) (s.heap.objs.size + 1) s.heap.objs.size 0 .none:=by
  have:=Heap.get?_push_size (s.heap.push { cls:=.type "tuple_iterator",data:=.fields #[.ref l,.int 0 0] })
   (o:={ cls:=.type "enumerate",data:=.fields #[.none,.bool false,.ref s.heap.objs.size,rawInt 0,.none,.none] }) rfl
  rw [hz] at this;exact this
 refine ⟨⟨_,he,rfl⟩,h _ he ⟨_,Heap.get?_push_of_some _ (Heap.get?_push_size _ rfl),rfl,rfl⟩ (by rw [Heap.size_push,hz]) fun b o x=>Heap.get?_push_of_some _ (Heap.get?_push_of_some _ x)⟩
section
variable {X:Cx} {pins:List (Addr×Obj)} {σ:St} {H:Hp} {s:Shared} {h':Heap}
theorem Inv.turned2{t':Nat}{e it:Addr}(I:Inv X pins σ H s)(k:∀ b o,b ≠ e->b ≠ it->s.heap.get? b=some o->h'.get? b=some o)(fe:S6 X pins H e)(fi:S6 X pins H it):Inv X pins σ H { s with heap:=h',toks:=t' }:=by
 have ne1:∀ b,b ∉ [e,it]->b ≠ e/\b ≠ it:=fun b hb=>⟨fun z=>hb (by simp [z]),fun z=>hb (by simp [z])⟩
 have nit:∀ b u,H b=some u->b ≠ e/\b ≠ it:=fun b u q=>⟨fun z=>(by rw [z,fe.1] at q;cases q),fun z=>(by rw [z,fi.1] at q;cases q)⟩
 refine I.step (g':=s.gens) (d':=s.drawn) (ch:=[e,it]) (fun b hb=>?_) (fun b o _ _ hc q _=>k b o (ne1 b hc).1 (ne1 b hc).2 q) (fun b o _ _ hc q _=>⟨o.slots,k b o (ne1 b hc).1 (ne1 b hc).2 q⟩) (fun _ _ _ _ n=>n)
  (fun b o hc q=>⟨o,k b o (ne1 b hc).1 (ne1 b hc).2 q⟩) (fun _ _ q=>q) (fun _ _ _ q=>q) (fun b ps q=>⟨#[],by rw [q];simp⟩) (fun m hm=>?_) (fun b u q=>?_) I.bare
 ·rcases List.mem_cons.mp hb with z | z
  ·subst z;exact ⟨fe.2.2.2.1,fe.2.1,fe.2.2.2.2.1,fe.2.2.2.2.2⟩
  ·have z:=List.mem_singleton.mp z;subst z;exact ⟨fi.2.2.2.1,fi.2.1,fi.2.2.2.2.1,fi.2.2.2.2.2⟩
 ·obtain ⟨o,es,ep,ho,r⟩:=hm;exact ⟨o,es,ep,k _ o (Ne.symm fe.2.1) (Ne.symm fi.2.1) ho,r⟩
 ·refine (I.hok b u q).stay (fun c v hc z=>?_) (fun _ z=>z) fun _ _ z=>z
  rcases hc with y | y
  ·rw [y];rw [y] at z;exact k b v (nit b u q).1 (nit b u q).2 z
  ·exact k c v (nit c _ y).1 (nit c _ y).2 z
end
structure a0a(P:Program)(w:World)(K:PySem.W.Frag)(a it:Addr)(Sq:Hp->List V->Prop)(IsIt:Nat->Heap->Prop):Prop where
 at_:∀ i h h',IsIt i h->(∀ o,h.get? it=some o->h'.get? it=some o)->IsIt i h'
 live:∀ i h,IsIt i h->∃ o,h.get? it=some o/\∀ v,o.data ≠ .cell v
 drw:∀ (X:Cx),X.prog=P->X.w=w->X.K=K->X.calm=true->∀ (i:Nat) (pins:List (Addr×Obj)) (s:Shared) (σ:St) (H:Hp) (xs:List V),Inv X pins σ H s->IsIt i s.heap->Sq H xs ->
  ∃ its:List Value,Vals xs its/\(∃ oa,s.heap.get? a=some oa/\oa.cls ≠ .type "enumerate")/\∃ St:Nat->Heap->Prop,Draws P w X.A.in1 it [it,a] its.length (fun i v=>its[i]?=some v) St/\St i s.heap/\∀ j h',St j h'->IsIt j h'
 inj:∀ (X:Cx),X.prog=P->X.w=w->X.K=K->∀ (pins:List (Addr×Obj)) (s:Shared) (σ:St) (H:Hp) (xs ys:List V),Inv X pins σ H s->Sq H xs->Sq H ys->xs=ys
def Ite(Sq:Hp->List V->Prop):It :=
 ⟨fun i H=>∃ xs x,Sq H xs/\xs[i]?=some x,fun i H x H'=>∃ T v,x = .ref T/\H T=none/\H'=upd H T (.tup [.int (i:Nat),v])/\∀ xs,Sq H xs->xs[i]?=some v,fun i H=>∃ xs,Sq H xs/\xs.length=i⟩
theorem X6{A:Around}(h:A.handled=none):A.in1.handled=none:=h
theorem a8I{P:Program}{w:World}{K:PySem.W.Frag}(a it:Addr):a0a P w K a it (fun H xs=>SqL K H a xs) (fun i h=>h.IsListIter it a i) where
 at_:=fun i h h' st k=>st.at k
 live:=fun i h st=>by
  obtain ⟨o,e,c,d⟩:=st;exact ⟨o,e,fun v z=>by rw [d] at z;cases z⟩
 drw:=by
  intro X hP hw hK hc i pins s σ H xs I hit hq;subst hP hw hK;obtain ⟨its,rv,p,hz⟩:=I.list hq;obtain ⟨oa,e1,c1,r1⟩:=id p.isList
  have hne:a ≠ it:=fun z=>by
   obtain ⟨o,e,c,_⟩:=hit;rw [<- z,e1] at e;cases e;rw [c1] at c;injection c with c;exact absurd c (by decide)
  refine ⟨its,rv,⟨oa,e1,fun z=>(by rw [c1] at z;injection z with z;exact absurd z (by decide))⟩,(fun i h=>h.IsListIter it a i/\h.IsList a its.toArray),?_,⟨hit,p.isList⟩,fun j h' st=>st.1⟩;have D:=Draws.list (prog:=X.prog) (w:=X.w) (A:=X.A.in1) (X6 (I.ok.hd hc)) it a hne its.toArray
  simpa using D
 inj:=by
  intro X hP hw hK pins s σ H xs ys I h1 h2;subst hP hw hK;exact I.list_inj h1 h2
theorem b4f{P:Program}{w:World}{K:PySem.W.Frag}(a it:Addr):a0a P w K a it (fun H xs=>SqT K H a xs) (fun i h=>h.IsTupleIter it a i) where
 at_:=fun i h h' st k=>st.at k
 live:=fun i h st=>by
  obtain ⟨o,e,c,d⟩:=st;exact ⟨o,e,fun v z=>by rw [d] at z;cases z⟩
 drw:=by
  intro X hP hw hK hc i pins s σ H xs I hit hq;subst hP hw hK;obtain ⟨its,rv,p,hz⟩:=I.tuple hq;obtain ⟨oa,e1,c1,r1⟩:=id p
  have hne:a ≠ it:=fun z=>by
   obtain ⟨o,e,c,_⟩:=hit;rw [<- z,e1] at e;cases e;rw [c1] at c;injection c with c;exact absurd c (by decide)
  refine ⟨its,rv,⟨oa,e1,fun z=>(by rw [c1] at z;injection z with z;exact absurd z (by decide))⟩,(fun i h=>h.IsTupleIter it a i/\h.IsTuple a its.toArray),?_,⟨hit,p⟩,fun j h' st=>st.1⟩;have D:=a3A (prog:=X.prog) (w:=X.w) (A:=X.A.in1) (X6 (I.ok.hd hc)) it a hne its.toArray
  simpa using D
 inj:=by
  intro X hP hw hK pins s σ H xs ys I h1 h2;subst hP hw hK;exact I.tuple_inj h1 h2
theorem a6K{P:Program}{w:World}{K:PySem.W.Frag}{a it:Addr}{Sq:Hp->List V->Prop}{IsIt:Nat->Heap->Prop}(S:a0a P w K a it Sq IsIt)(e:Addr)(hei:e ≠ it){es:List Expr}{x1}{pos:Pos} :
  a3D P w K (.Tuple es x1 pos) (Ite Sq) [e,it] e (fun i h=>(∃ old,IsEnum h e it ((i:Nat):Int) old)/\IsIt i h) where
 mem:=by simp
 obj:=fun i h st b hb=>by
  obtain ⟨⟨old,he⟩,hit⟩:=st
  rcases List.mem_cons.mp hb with z | z
  ·subst z;exact ⟨_,he,fun v z=>by cases z⟩
  ·have z:=List.mem_singleton.mp z;subst z;exact S.live i h hit
 keep:=fun i h h' st k=>by
  obtain ⟨⟨old,he⟩,hit⟩:=st;exact ⟨⟨old,k e (by simp) _ he⟩,S.at_ i h h' hit fun o q=>k it (by simp) o q⟩
 item:=by
  intro X hP hw hK hc i pins s σ H E I hf st hg;obtain ⟨⟨old,he⟩,hit⟩:=st;obtain ⟨xs,x,hq,hx⟩:=hg;obtain ⟨its,rv,⟨oa,ea,ca⟩,St,D,st0,fromSt⟩:=S.drw X hP hw hK hc i pins s σ H xs I hit hq;obtain ⟨u,hu,ru⟩:=rv.get hx;have hlt:i < its.length:=(List.getElem?_eq_some_iff.mp hu).1
  have hef:e ∉ [it,a]:=fun z=>by
   rcases List.mem_cons.mp z with z | z
   ·exact hei z
   ·have z:=List.mem_singleton.mp z;have he':s.heap.get? e=some _:=he;rw [z,ea] at he';cases he';exact ca rfl
  refine wpAny_pyNext_enum_itemD D he st0 hlt hei hef fun y h1 tk hy heo hst1 htup hsz hk=>?_;have ey:y=u:=Option.some.inj (hy.symm.trans hu);subst ey;refine ⟨_,rfl,wpAny_letOwnedTupleGo_enum heo fun h2 he2 sb2=>?_⟩;have fe:=hf e (by simp);have fi:=hf it (by simp);have hT:H s.heap.objs.size=none:=I.hok.fresh (Nat.le_refl _)
  have Im:Inv X pins σ (upd H s.heap.objs.size (.tup [.int (i:Nat),x])) { s with heap:=s.heap.push { cls:=.type "tuple",data:=.seq #[.int i tk,y] } } :=
   I.laid (t':=s.toks) (fun b v q=>Heap.get?_push_of_some _ q) (Nat.le_refl _) ⟨by show 2 <= sizeLine;decide,[.int i tk,y],.cons ⟨tk,rfl⟩ (.cons ru .nil),⟨_,Heap.get?_push_size _ rfl,rfl,_,rfl⟩⟩
  have lt:∀ b o,s.heap.get? b=some o->b ≠ s.heap.objs.size:=fun b o q=>Nat.ne_of_lt (Heap.lt_size q);have ne:e ≠ s.heap.objs.size:=lt e _ he
  have ni:it ≠ s.heap.objs.size:=by
   obtain ⟨o,q,_⟩:=S.live i _ hit;exact lt it o q
  have up:∀ b,b ≠ s.heap.objs.size->(upd H s.heap.objs.size (.tup [.int (i:Nat),x])) b=H b:=fun b hb=>k6 hb;have fe':S6 X pins (upd H s.heap.objs.size (.tup [.int (i:Nat),x])) e:=⟨by rw [up e ne];exact fe.1,fe.2⟩
  have fi':S6 X pins (upd H s.heap.objs.size (.tup [.int (i:Nat),x])) it:=⟨by rw [up it ni];exact fi.1,fi.2⟩
  have I2:Inv X pins σ (upd H s.heap.objs.size (.tup [.int (i:Nat),x])) { s with heap:=h2,toks:=tk + 1 } :=
   Im.turned2 (t':=tk + 1) (h':=h2) (fun b o hbe hbi q=>by
    have q:(s.heap.push { cls:=.type "tuple",data:=.seq #[.int i tk,y] }).get? b=some o:=q;refine (sb2.2 b hbe).trans ?_
    rcases Heap.get?_push_cases q with ⟨hb,ho⟩ | q'
    ·subst hb;subst ho;exact htup
    ·exact hk b o hbe hbi q') fe' fi'
  refine ⟨.ref s.heap.objs.size,_,I2,rfl,⟨_,x,rfl,hT,rfl,fun ys hy=>by rw [S.inj X hP hw hK pins s σ H ys xs I hy hq];exact hx⟩,⟨⟨y,?_⟩,?_⟩,fun b hb=>?_⟩
  ·have ec:((i + 1:Nat):Int)=(i:Int) + 1:=by push_cast;rfl
   rw [ec];exact he2
  ·exact S.at_ _ _ _ (fromSt _ _ hst1) fun o q=>(sb2.2 it (Ne.symm hei)).trans q
  ·rcases List.mem_cons.mp hb with z | z
   ·subst z;exact fe'.1
   ·have z:=List.mem_singleton.mp z;subst z;exact fi'.1
 done:=by
  intro X hP hw hK hc i pins s σ H E I hf st hg;obtain ⟨⟨old,he⟩,hit⟩:=st;obtain ⟨xs,hq,hx⟩:=hg;obtain ⟨its,rv,⟨oa,ea,ca⟩,St,D,st0,fromSt⟩:=S.drw X hP hw hK hc i pins s σ H xs I hit hq;have hl:=rv.length;have ei:its.length=i:=by omega
  rw [<- ei] at st0;obtain ⟨f0,f1,f2,f3,f4,f5⟩:=hf it (by simp);exact wpAny_pyNext_enum_endD D he st0 fun h1 eb=>⟨rfl,I.turned (t':=s.toks) (fun b o hb q=>eb b o hb q) f0 f1 f3 f4 f5⟩
 self:=fun _ _ _ _ _ st h=>wpAny_pyIter_enum st.1.choose_spec h
section
variable {X:Cx}
theorem a3a{pins:List (Addr×Obj)}{σ:St}{H:Hp}{s:Shared}{h':Heap}{a:Addr}{Sq:Hp->List V->Prop}{IsIt:Nat->Heap->Prop}{R:It->Hp->Prop}{tg:Expr}(htg:∃ es x1 pos,tg = .Tuple es x1 pos)(I:Inv X pins σ H s)(S:a0a X.prog X.w X.K a s.heap.objs.size Sq IsIt)
  (he:IsEnum h' (s.heap.objs.size + 1) s.heap.objs.size 0 .none) (hit:IsIt 0 h') (hk:∀ b o,s.heap.get? b=some o->h'.get? b=some o) (q:R (Ite Sq) H) {E:Value->Shared->Prop} :
  wpAny (model X.prog X.w) X.A (pyIter (.ref (s.heap.objs.size + 1))) (PIE X pins σ tg R) E { s with heap:=h' }:=by
 obtain ⟨es,x1,pos,rfl⟩:=htg;refine wpAny_pyIter_enum (s:={ s with heap:=h' }) he ?_;refine ⟨s.heap.objs.size + 1,[s.heap.objs.size + 1,s.heap.objs.size],_,_,H,rfl,I.kept (t':=s.toks) hk,a6K S (s.heap.objs.size + 1) (Nat.succ_ne_self _),⟨⟨_,he⟩,hit⟩,fun b hb=>?_,q⟩
 rcases List.mem_cons.mp hb with z | z
 ·subst z;exact I.fpOk (Nat.le_succ _) (I.hok.fresh (Nat.le_succ _))
 ·have z:=List.mem_singleton.mp z;subst z;exact I.fpOk (Nat.le_refl _) (I.hok.fresh (Nat.le_refl _))
end
end L2
namespace HT
open PySem PySem.Spec PyProof.Rows
section
variable {prog:Program} {w:World} {A:Around} {E:Value->Shared->Prop} {s:Shared}
theorem getItem_tuple_all{t sl:Addr}{items:Array Value}{vl vu:Value}{lo hi:Option Int}{Q:Value->Shared->Prop}(ht:IsTup s.heap t items)(hs:s.heap.IsSliceOf sl vl vu .none)(pl:IsPart vl lo)(pu:IsPart vu hi)
  (hw:sIx items.size 0 lo=0/\sIx items.size items.size hi=items.size) (h:Q (.ref t) s):wpAny (model prog w) A (getItem (.ref t) (.ref sl)) Q E s:=by
 obtain ⟨os,hos,hcs,hds⟩:=id hs;have hTs:s.TypeIs (.ref sl) "slice":=⟨os,hos,hcs⟩
 unfold getItem
 try with_reducible refine wpAny_holding ?_
 first | refine wpAny_bind (wpAny_pure ?_) | skip
 refine wpAny_bind (wpAny_sequenceKey ht.typeIs (by decide) ?_)
 refine wpAny_bind (wpAny_callSpecial?_slot (name:=Str.ofString "__getitem__") ht.typeIs PyProof.Rows.slot_tuple_getitem
  (wpAny_call_entry PyProof.Rows.slot_tuple_getitem ht.typeIs entry_tuple_getitem ?_ (args_tuple_getitem _ _)))
 show wpAny _ _ (Builtin.Tuple.tupleItemsOf (.ref t) >>= _) _ _ s;refine wpAny_bind (tupleItemsOf_ ht ?_);refine wpAny_bind (wpAny_typeOf hTs ?_);rw [if_pos (by decide)];refine wpAny_bind (J6 hs pl pu ?_)
 have hyes:(((sIx items.size 0 lo:Nat):Int) == 0 && (1:Int) == 1 && (sIx items.size items.size hi - sIx items.size 0 lo) == items.size)=true:=by
  rw [hw.1,hw.2];simp
 show wpAny _ _ (if (((sIx items.size 0 lo:Nat):Int) == 0 && (1:Int) == 1 && (sIx items.size items.size hi - sIx items.size 0 lo) == items.size)=true then _ else _) _ _ s;rw [if_pos hyes];refine wpAny_bind (m:=Builtin.Tuple.tupleIsExact _) ?_;unfold Builtin.Tuple.tupleIsExact;refine wpAny_bind (wpAny_typeOf ht.typeIs (wpAny_pure ?_));rw [if_pos (by decide)];exact wpAny_bind (wpAny_rule (wpAny_bind (wpAny_pure (wpAny_pure ⟨_,rfl,wpAny_pure h⟩))))
end
end HT
namespace L2
open PySem PySem.Spec PyProof.Rows
section
variable {X:Cx}
end
end L2
namespace L2
open PySem PySem.Spec PyProof.Rows
mutual
inductive Is(H:Hp):V->PyData->Prop
 |non:Is H .non .none
 |bl (b:Bool):Is H (.bl b) (.bool b)
 |int (i:Int):Is H (.int i) (.int i)
 |str (x:Str):Is H (.str x) (.str x)
 |lst {a:Addr} {xs:List V} {ds:List PyData}:H a=some (.lst xs)->Iss H xs ds->Is H (.ref a) (.list ds)
 |tup {a:Addr} {xs:List V} {ds:List PyData}:H a=some (.tup xs)->Iss H xs ds->Is H (.ref a) (.tuple ds)
inductive Iss(H:Hp):List V->List PyData->Prop
 |nil:Iss H [] []
 |cons {x:V} {d:PyData} {xs:List V} {ds:List PyData}:Is H x d->Iss H xs ds->Iss H (x :: xs) (d :: ds)
end
theorem Iss.get{H:Hp}:∀ {xs:List V} {ds:List PyData} {i:Nat} {d:PyData},Iss H xs ds->ds[i]?=some d->∃ x,xs[i]?=some x/\Is H x d
 |_,_,_,_,.nil,e=>by simp at e
 |_,_,0,_,.cons r _,e=>by simp at e;subst e;exact ⟨_,rfl,r⟩
 |_,_,i + 1,d,.cons _ t,e=>by
  obtain ⟨u,h1,h2⟩:=Iss.get (i:=i) (d:=d) t (by simpa using e);exact ⟨u,by simpa using h1,h2⟩
section
variable {X:Cx} {pins:List (Addr×Obj)} {σ:St} {H:Hp} {s:Shared}
theorem a1b(hc:X.calm=true):CallR X (.builtin "sum") (fun xs H Q=>∃ (l:Addr) (ns:List Int),xs=[.ref l]/\SqL X.K H l (ns.map V.int)/\Q (.int ns.sum) H):=by
 intro pins s σ H xs us Q I r h;obtain ⟨l,ns,rfl,hq,q⟩:=h;obtain ⟨u,rfl,ru⟩:=T7 r;cases ru;obtain ⟨its,rv,p,hz⟩:=I.list hq;have hi:IntsAre its ns:=K9 rv;obtain ⟨ys,e⟩:=hi.allInts.items;have en:ys.toList.map (·.1)=ns:=by rw [<- nums_intItems,<- e];simpa using hi.numsOf
 refine sum_intListG (xs:=ys) (I.ok.hd hc) (by rw [<- e];exact p.isList) fun h' tk t' hk=>⟨.int ns.sum,H,I.kept hk,⟨t',?_⟩,q⟩
 rw [preSum_eq,List.take_of_length_le (by simp),en]
theorem b1J:MtR X "int.bit_length" (fun x vs H Q=>∃ i,x = .int i/\vs=[]/\Q (.int (Builtin.Int.intBits i:Nat)) H):=by
 intro pins s σ H x xs v us Q I rx r h;obtain ⟨i,rfl,rfl,q⟩:=h;obtain ⟨t,rfl⟩:=rx;cases r;exact PyProof.Rows.call_int_bit_length ⟨.int (Builtin.Int.intBits i:Nat),H,I.tok _,⟨_,rfl⟩,q⟩
end
end L2
namespace L2
open PySem PySem.Spec PyProof.Rows
structure Cal(P:Program)(w:World)(K:PySem.W.Frag)(mg:Str->Option Value)(base:Heap)(k:Nat)(x:Str)(ps:List Str)(sp:Sp):Prop where
 ex:∃ (f:Addr) (fd:FuncData),l9 P w K mg base CX0 k f fd ps sp/\mg x=some (.ref f)/\PySem.W.keepIn K (.ref f)=true/\Binds K fd ps []
section
variable {X:Cx} {k:Nat} {ps:List Str} {sp:Sp} {x:Str} {p pos:Pos} {e:Expr} {es:List Expr} {t:TA}
theorem b6u(c:Cal X.prog X.w X.K X.mg X.base k x ps sp)(hr:Room k X.A)(hg:Gl X x)(ha:PA X (e :: es) t)(hdb:(x == ("__debug__":Str))=false:=by decide)
  (he:starEach (e :: es) X.env=(false,eval e X.env) :: starEach es X.env:=by rfl) (hpl:(backTo pos (starEach es X.env)).any (·.1)=false:=by rfl):PE X (.Call (.Name x p) (e :: es) [] pos) (b5g sp [] E0 t):=by
 obtain ⟨f,fd,F,hm,hk,hb⟩:=c.ex;exact b3w F hr hg hm hk hb .nil a3s ha hdb he hpl
end
end L2
namespace L2
open PySem PySem.Spec PyProof.Rows
section
variable {X:Cx}
end
end L2
namespace L2
open PySem PySem.Spec PyProof.Rows
section
variable {X:Cx} {e st:Expr} {te:TE} {lo hi:Option Expr} {tl th ts:TO} {pos p2:Pos}
end
end L2
namespace L2
open PySem PySem.Spec PyProof.Rows
section
variable {X:Cx}
end
end L2
namespace L2
open PySem PySem.Spec PyProof.Rows
section
variable {prog:Program} {w:World} {A:Around} {E:Value->Shared->Prop} {s:Shared}
theorem a3H{it l:Addr}{items:Array Value}(hne:l ≠ it):∀ (n i:Nat) (s:Shared) (Q:List Value->Shared->Prop),s.heap.IsListIter it l i->s.heap.IsList l items->i + n <= items.size ->
  (∀ h',h'.IsListIter it l (i + n)->Heap.SameBut it s.heap h'->Q ((items.toList.drop i).take n) { s with heap:=h' })->wpAny (model prog w) A (draw (.ref it) n) Q E s
 |0,i,s,Q,hit,_,_,hQ=>wpAny_pure (by simpa using hQ s.heap hit (Heap.SameBut.refl ..))
 |n + 1,i,s,Q,hit,hl,hle,hQ=>by
  have hlt:i < items.size:=by omega
  show wpAny _ _ (pyNext (.ref it) >>= fun r=>_) Q E s;refine wpAny_bind (wpAny_pyNext_list_item hit hl (x:=items[i]) (by simp [hlt]) fun h1 hit1 hs1=>wpAny_bind (wpAny_holding (a3H hne n (i + 1) _ _ hit1 (hl.extBut hs1.extBut hne) (by omega) fun h2 hit2 hs2=>wpAny_pure ?_)));have q:=hQ h2 (by rw [Nat.add_comm n 1,<- Nat.add_assoc];exact hit2) (hs1.trans hs2);have e:items.toList.drop i=items[i] :: items.toList.drop (i + 1):=by simp [List.drop_eq_getElem_cons,hlt]
  rw [e,List.take_succ_cons] at q;exact q
theorem a6s{l:Addr}{items:Array Value}{Q:List Value->Shared->Prop}(hh:A.handled=none)(hl:s.heap.IsList l items)
  (hQ:∀ h',Heap.ExtBut s.heap.objs.size s.heap h'->Q items.toList { s with heap:=h' }):wpAny (model prog w) A (unpackItems (.ref l) items.size none) Q E s:=by
 have hlt:l ≠ s.heap.objs.size:=by
  obtain ⟨o,ho,_⟩:=hl;exact Nat.ne_of_lt (Heap.lt_size ho)
 unfold unpackItems notIterableAtAll;refine wpAny_bind (wpAny_bind (wpAny_specialOf hl.typeIs slot_list_iter.lookup (wpAny_pure ?_)));simp only [Bool.false_eq_true,if_false];refine wpAny_bind (wpAny_holding (wpAny_pyIter_list hl (wpAny_bind (wpAny_holding (a3H hlt items.size 0 _ _ ⟨_,Heap.get?_push_size _ rfl,rfl,rfl⟩ (hl.push _) (by omega) fun h1 hit1 hs1=>?_)))));rw [show List.take items.size (List.drop 0 items.toList)=items.toList by rw [List.drop_zero];exact List.take_of_length_le (by simp),if_neg (by simp)];refine wpAny_bind (wpAny_holding (wpAny_pyNext_list_end hh hit1 ((hl.push _).extBut hs1.extBut hlt) (by simp) fun h2 he2=>?_));simp only [Option.isSome_none,Bool.false_eq_true,if_false];exact wpAny_pure (hQ h2 fun b o hb e=>he2 b o hb (hs1.extBut b o hb (Heap.get?_push_of_some _ e)))
end
section
variable {X:Cx} {pos:Pos}
def c0l(K:PySem.W.Frag)(n:Nat)(t:TGs):TG:=fun v σ H Q=>∃ a xs,v = .ref a/\SqL K H a xs/\xs.length=n/\t xs σ H Q
theorem b2W{es:List Expr}{k:Nat}{t:TGs}{n:Nat}(hc:X.calm=true)(h:PGs X es t)
  (hn:(assignEach es X.env).length=n:=by rfl) (hst:(assignEach es X.env).findIdx? (·.1)=none:=by rfl):PG X (.Tuple es k pos) (c0l X.K n t):=by
 intro pins s σ H v u Q I r hw;obtain ⟨a,xs,e1,hq,hl,hw⟩:=hw;subst e1;cases r;obtain ⟨its,rv,pl,hz⟩:=I.list hq;rw [assign_Tuple];refine wpAny_bind (wpAny_standAt ?_);unfold unpack;have e:(assignEach es X.env).length=its.toArray.size:=by simp [hn,<- hl,rv.length]
 rw [e,hst];refine wpAny_bind (wpAny_holding (a6s (I.ok.hd hc) pl.isList fun h' hx=>?_));have I1:Inv X pins σ H { s with heap:=h' }:=I.kept (t':=s.toks) fun b o e=>hx b o (Nat.ne_of_lt (Heap.lt_size e)) e;exact h pins _ σ H xs _ Q I1 (by simpa using rv) hw
end
end L2
namespace L2
open PySem PySem.Spec PyProof.Rows
section
variable {prog:Program} {w:World} {A:Around} {E:Value->Shared->Prop} {s:Shared}
theorem a6B{d:Addr}{o:Obj}{es:Array DictEntry}{ep:Nat}{Q:Value->Shared->Prop}(hd:(d == sysModules)=false)(ho:s.heap.get? d=some o)(hx:o.ExactDict)(hdat:o.data = .dict es ep)
  (hQ:Q (.ref s.heap.objs.size) { s with heap:=s.heap.push { cls:=.type "dict_keyiterator",data:=.fields #[.ref d,.int 0 0,.int es.size 0,.int ep 0] } }):wpAny (model prog w) A (pyIter (.ref d)) Q E s:=by
 have hT:s.TypeIs (.ref d) "dict":=⟨o,ho,hx.1⟩
 refine wpAny_pyIter_slot hT F.slot_dict_iter (wpAny_call_entry F.slot_dict_iter hT F.entry_dict_iter (by unfold Builtin.«dict.__iter__»;refine wpAny_bind ?_;unfold Builtin.Dict.dictSlotNone;refine wpAny_bind (wpAny_notOrdered_dict hT ?_);show wpAny _ _ (pure (Value.ref d)) _ _ s;refine wpAny_pure ?_;show wpAny _ _ (Builtin.Dict.showsAll d >>= _) _ _ s;unfold Builtin.Dict.showsAll;rw [if_neg (by rw [hd];exact Bool.false_ne_true)];refine wpAny_bind (wpAny_pure (wpAny_bind (wpAny_dictEntries ho hdat (wpAny_bind (wpAny_dictEpoch ho hdat (wpAny_bind (wpAny_newObj_type (wpAny_pure ⟨_,rfl,"dict_keyiterator",_,⟨_,Heap.get?_push_size _ rfl,rfl⟩,F.slot_dict_keyiterator_next.lookup,?_⟩))))))));simpa [rawInt] using hQ) (F.args_dict_iter_1 _))
theorem a0T{it d:Addr}{i ep:Nat}{od:Obj}{es:Array DictEntry}{Q:Option Value->Shared->Prop}(hit:s.heap.IsKeyIter it d i es.size ep)(hod:s.heap.get? d=some od)(hdd:od.data = .dict es ep)(hlt:i < es.size)
  (hQ:∀ h',h'.IsKeyIter it d (i + 1) es.size ep->Heap.SameBut it s.heap h'->Q (some es[i].key) { s with heap:=h' }):wpAny (model prog w) A (pyNext (.ref it)) Q E s:=by
 obtain ⟨o,ho,hc,hd⟩:=id hit;unfold pyNext;refine wpAny_bind (wpAny_attempt (wpAny_callSpecial?_slot (name:=Str.ofString "__next__") hit.typeIs F.slot_dict_keyiterator_next (wpAny_call_entry F.slot_dict_keyiterator_next hit.typeIs F.entry_dict_keyiterator_next ?_ (F.args_dict_keyiterator_next_1 _))));refine wpAny_bind (wpAny_pure (wpAny_bind (wpAny_bind ?_)));refine wpAny_bind (wpAny_typeNameOfWhole_keyiter hit.typeIs (wpAny_pure (wpAny_bind (wpAny_fieldsOf ho hd ?_))));have hown:Builtin.Dict_items.ownsTuple "dict_keyiterator" = false:=by decide
 simp only [hown,Bool.false_eq_true,if_false];show wpAny _ _ (if (Value.ref d == Value.none)=true then _ else _) _ _ s;rw [if_neg (show ¬ ((Value.ref d == Value.none)=true) from Bool.false_ne_true)];refine wpAny_bind (wpAny_pure (wpAny_bind (wpAny_dictEntries hod hdd ?_)));rw [if_neg (by simp)];refine wpAny_bind (wpAny_pure (wpAny_bind (wpAny_dictEpoch hod hdd ?_)));rw [if_neg (by simp)];refine wpAny_pure ?_;simp only [show ¬ ((i:Int) < 0) from by omega,if_false,Int.toNat_natCast,Array.getElem?_eq_getElem hlt];refine wpAny_bind (wpAny_bind (wpAny_typeNameOfWhole_keyiter hit.typeIs (wpAny_pure (wpAny_bind (wpAny_isOneOf_keyiter hit.typeIs ?_)))));show wpAny _ _ (setField (.ref it) 1 (rawInt ((i:Int) + 1)) >>= _) _ _ s;refine wpAny_bind (wpAny_setField ho hd (by simp) ?_);have hit':(s.heap.update it (Obj.mapFields (·.setIfInBounds 1 (rawInt ((i:Int) + 1))))).IsKeyIter it d (i + 1) es.size ep:=⟨_,Heap.get?_update_self _ ho (Obj.isFreed_of_fields (Obj.data_mapFields hd _)),(Obj.cls_mapFields ..).trans hc,by rw [Obj.data_mapFields hd];simp [rawInt]⟩
 refine wpAny_bind (wpAny_holding (wpAny_bind (wpAny_isOneOf_keyiter (s:={ s with heap:=s.heap.update it (Obj.mapFields (·.setIfInBounds 1 (rawInt ((i:Int) + 1)))) }) hit'.typeIs ?_)));show wpAny _ _ (pure es[i].key) _ _ _;exact wpAny_pure (wpAny_pure ⟨_,rfl,wpAny_pure (hQ _ hit' (Heap.SameBut.update ..))⟩)
theorem a2e{it d:Addr}{i ep:Nat}{od:Obj}{es:Array DictEntry}{Q:Option Value->Shared->Prop}(hh:A.handled=none)(hit:s.heap.IsKeyIter it d i es.size ep)(hod:s.heap.get? d=some od)(hdd:od.data = .dict es ep)(hge:es.size <= i)
  (hQ:∀ h',Heap.ExtBut it s.heap h'->Q none { s with heap:=h' }):wpAny (model prog w) A (pyNext (.ref it)) Q E s:=by
 obtain ⟨o,ho,hc,hd⟩:=id hit;unfold pyNext;refine wpAny_bind (wpAny_attempt (wpAny_callSpecial?_slot (name:=Str.ofString "__next__") hit.typeIs F.slot_dict_keyiterator_next (wpAny_call_entry F.slot_dict_keyiterator_next hit.typeIs F.entry_dict_keyiterator_next ?_ (F.args_dict_keyiterator_next_1 _))));refine wpAny_bind (wpAny_pure (wpAny_bind (wpAny_bind ?_)));refine wpAny_bind (wpAny_typeNameOfWhole_keyiter hit.typeIs (wpAny_pure (wpAny_bind (wpAny_fieldsOf ho hd ?_))));have hown:Builtin.Dict_items.ownsTuple "dict_keyiterator" = false:=by decide
 simp only [hown,Bool.false_eq_true,if_false];show wpAny _ _ (if (Value.ref d == Value.none)=true then _ else _) _ _ s;rw [if_neg (show ¬ ((Value.ref d == Value.none)=true) from Bool.false_ne_true)];refine wpAny_bind (wpAny_pure (wpAny_bind (wpAny_dictEntries hod hdd ?_)));rw [if_neg (by simp)];refine wpAny_bind (wpAny_pure (wpAny_bind (wpAny_dictEpoch hod hdd ?_)));rw [if_neg (by simp)];refine wpAny_pure ?_;simp only [show ¬ ((i:Int) < 0) from by omega,if_false,Int.toNat_natCast,Array.getElem?_eq_none hge];refine wpAny_bind (wpAny_bind (wpAny_typeNameOfWhole_keyiter hit.typeIs (wpAny_pure ?_)));show wpAny _ _ (setField (.ref it) 0 .none >>= _) _ _ s;refine wpAny_bind (wpAny_setField ho hd (by simp) ?_);show wpAny _ _ (newExc (.type "StopIteration") [] >>= _) _ _ _;refine wpAny_bind ?_;simp only [newExc,newTuple];refine wpAny_bind (wpAny_newObj_type ?_ (by size_fits));refine wpAny_bind (m:=firstArgMember _ _) (wpAny_of_eq (a:=Value.none) (by first | rfl | (simp only [firstArgMember];rfl)) (wpAny_newObj_type ?_ (by size_fits)));simp only [raiseNew];refine wpAny_bind (wpAny_handled ?_);rw [show A.in1.handled=none from hh];refine wpAny_bind (wpAny_pure (wpAny_throw ?_));exact wpAny_bind (wpAny_isInstance (T:= "StopIteration") (b:=true) ⟨_,Heap.get?_push_size _ rfl,rfl⟩ isSubtype_stop (wpAny_pure (hQ _ (((Heap.SameBut.update ..).extBut.push _).push _))))
end
end L2
namespace L2
open PySem PySem.Spec PyProof.Rows
section
variable {X:Cx}
end
end L2
namespace L2
open PySem PySem.Spec PyProof.Rows
theorem KT.get{H:Hp}:∀ {kvs:List (List Key×V)} {xs:List (List Key×Addr×Value)} {i:Nat} {q:List Key×Addr×Value},KT H kvs xs->xs[i]?=some q->∃ p,kvs[i]?=some p/\H q.2.1=some (.tup (p.1.map kV))
 |_,_,_,_,.nil,e=>by simp at e
 |_,_,0,_,.cons r _,e=>by simp at e;subst e;exact ⟨_,rfl,r.2.1⟩
 |_,_,i + 1,q,.cons _ t,e=>by
  obtain ⟨p,h1,h2⟩:=KT.get (i:=i) (q:=q) t (by simpa using e);exact ⟨p,by simpa using h1,h2⟩
def Itd(a:Addr)(o:Obj)(kvs:List (List Key×V)):It :=
 ⟨fun i H=>H a=some (.frz o (.dT kvs))/\i < kvs.length,fun i H x H'=>H'=H/\∃ b p,kvs[i]?=some p/\x = .ref b/\H b=some (.tup (p.1.map kV)),fun i H=>H a=some (.frz o (.dT kvs))/\kvs.length <= i⟩
theorem a7I{P:Program}{w:World}{H:Hp}{h:Heap}{a:Addr}{o:Obj}{es:Array DictEntry}{ep:Nat}{kvs:List (List Key×V)}(hd:o.data = .dict es ep)(ok:HOk P w H h)(e:H a=some (.frz o (.dT kvs))) :
  h.get? a=some o/\es.size=kvs.length/\∀ (i:Nat) (hi:i < es.size),∃ b p,kvs[i]?=some p/\es[i].key = .ref b/\H b=some (.tup (p.1.map kV)):=by
 obtain ⟨ho,z,y,xs,rel,o',es',ep',h1,h2,h3,h4,h5⟩:=(show ObjOk P w H h a (.frz o (.dT kvs)) from ok a _ e)
 rw [ho] at h1;cases h1;rw [hd] at h3;cases h3;have hs:es.size=xs.length:=by rw [<- Array.length_toList,h4,List.length_map]
 refine ⟨ho,by rw [hs,Paired.length rel],fun i hi=>?_⟩;have hix:i < xs.length:=by omega
 obtain ⟨p,e1,e2⟩:=KT.get rel (List.getElem?_eq_getElem hix);refine ⟨xs[i].2.1,p,e1,?_,e2⟩;have q:es[i]?=some (entryOfKey (tupleKind (o7 P w)) xs[i]):=by rw [<- Array.getElem?_toList,h4,List.getElem?_map,List.getElem?_eq_getElem hix];rfl
 rw [Array.getElem?_eq_getElem hi] at q;rw [Option.some.inj q];rfl
theorem C7{P:Program}{w:World}{K:PySem.W.Frag}{tg:Expr}(a it:Addr){o:Obj}{es:Array DictEntry}{ep:Nat}(kvs:List (List Key×V))(hd:o.data = .dict es ep) :
  a3D P w K tg (Itd a o kvs) [it] it (fun i h=>h.IsKeyIter it a i es.size ep) where
 mem:=by simp
 obj:=fun i h st b hb=>by
  have e:b=it:=by simpa using hb
  subst e;obtain ⟨ob,e,c,d⟩:=st;exact ⟨ob,e,fun v z=>by rw [d] at z;cases z⟩
 keep:=fun i h h' st k=>let ⟨ob,e,r⟩:=st;⟨ob,k it (by simp) ob e,r⟩
 item:=by
  intro X hP hw hK hc i pins s σ H E I hf st hg;subst hP hw hK;obtain ⟨hH,hi⟩:=hg;obtain ⟨ho,hs,hk⟩:=a7I hd I.hok hH;obtain ⟨b,p,e1,e2,e3⟩:=hk i (by omega);obtain ⟨f0,f1,f2,f3,f4,f5⟩:=hf it (by simp);refine a0T st ho hd (by omega) fun h' st' sb=>?_;have I1:Inv X pins σ H { s with heap:=h' }:=I.turned (t':=s.toks) (fun b o hb e=>(sb.2 b hb).trans e) f0 f1 f3 f4 f5;obtain ⟨ob,e,c,d⟩:=id st';exact ⟨_,rfl,a4s (s:={ s with heap:=h' }) e c d (by decide) ⟨.ref b,H,I1,e2,⟨rfl,b,p,e1,rfl,e3⟩,st',fun b hb=>(hf b hb).1⟩⟩
 done:=by
  intro X hP hw hK hc i pins s σ H E I hf st hg;subst hP hw hK;obtain ⟨hH,hi⟩:=hg;obtain ⟨ho,hs,hk⟩:=a7I hd I.hok hH;obtain ⟨f0,f1,f2,f3,f4,f5⟩:=hf it (by simp);exact a2e (I.ok.hd hc) st ho hd (by omega) fun h' eb=>⟨rfl,I.turned (t':=s.toks) (fun b o hb e=>eb b o hb e) f0 f1 f3 f4 f5⟩
 self:=fun A i s Q E st h=>by
  refine wpAny_pyIter_slot st.typeIs F.slot_dict_keyiterator_iter (wpAny_call_entry F.slot_dict_keyiterator_iter st.typeIs F.entry_dict_keyiterator_iter ?_ (F.args_dict_keyiterator_iter_1 _));show wpAny _ _ (ret (.ref it)) _ _ s;exact wpAny_pure ⟨_,rfl,"dict_keyiterator",_,st.typeIs,F.slot_dict_keyiterator_next.lookup,h⟩
section
variable {X:Cx} {tg:Expr}
end
section
variable {X:Cx}
end
end L2
namespace L2
open PySem
end L2
namespace L2
open PySem PySem.Spec PyProof.Rows
section
variable {prog:Program} {w:World} {A:Around} {E:Value->Shared->Prop} {s:Shared}
end
end L2
namespace L2
open PySem PySem.Spec PyProof.Rows
section
variable {prog:Program} {w:World} {A:Around} {E:Value->Shared->Prop} {s:Shared}
end
end L2
namespace L2
open PySem PySem.Spec PyProof.Rows
section
variable {X:Cx}
end
def a4R(P:Program)(w:World)(K:PySem.W.Frag)(a:Addr)(kvs:List (Key×V)):Prop:=∃ (o:Obj) (es:Array DictEntry) (ep:Nat) (vs:List (Key×Value)),K.lookup a=some o/\o.ExactDict/\o.data = .dict es ep/\KeysOf (o7 P w) es/\Pairs (o7 P w) es.toList vs/\(vs.map (·.1)).Nodup/\KV kvs vs
def b9L(kvs:List (Key×V))(ty:TE):TE:=fun σ H Q=>ty σ H fun y H1=>∃ k v,y=kV k/\G0 kvs k=some v/\Q v H1
theorem b1P{X:Cx}{x:Str}{a:Addr}{kvs:List (Key×V)}{i:Expr}{ty:TE}{p pos:Pos}(hg:Gl X x)(hm:X.mg x=some (.ref a))(hk:a4R X.prog X.w X.K a kvs)(hi:PE X i ty)(hs:b0b i)(hd:(x == ("__debug__":Str))=false:=by decide):PE X (.Subscript (.Name x p) i pos) (b9L kvs ty):=by
 intro pins s σ H Q I h;obtain ⟨o,es,ep,vs,h1,h2,h3,h4,h5,h6,h7⟩:=hk;refine a4N PySem.F.slot_dict_getitem.lookup hs (Z4 I hg hm (thn (hi pins s σ H _ I h) fun iv s2 ⟨y,H2,I2,ry,k,v,ey,hv,q2⟩=>?_) hd);subst ey;have dd:s2.heap.DictOf (o7 X.prog X.w) a vs:=⟨o,es,ep,I2.kIn a o h1,h2,h3,h4,h5,h6⟩
 obtain ⟨w',hw,rw'⟩:=RelO.some_of (v:=v) (o:=valueAt vs k) (by rw [<- hv];exact h7.val k);exact ⟨dd.typeIs,wpAny_getItem_of (Y2 ry) dd.mapOf hw ⟨v,H2,I2.tok _,rw',q2⟩⟩
end L2
namespace L2
open PySem
end L2
namespace L2
open PySem PySem.Spec PyProof.Rows
section
variable {X:Cx}
end
end L2
namespace DL
open PySem PySem.Spec L2
inductive D where
 |non | bl (b:Bool) | int (i:Int) | str (x:Str) | tup (xs:List D) | lst (xs:List D) | scr (xs:List D) | ref (i:Nat)
 |exc (cn:Str) (fs:List (Str×Int))
inductive O where
 |lst (xs:List D) | dT (z:Option Obj) (kvs:List (List Key×D)) | dK (kvs:List (Key×D)) | ins (cn:Str) (fs:List (Str×D))
structure KP where
 K:PySem.W.Frag
 π:List Addr
def VT(K:KP)(α:List Addr)(H:Hp)(a:Addr)(us:List V):Prop:=a ∉ α/\a ∉ K.π/\H a=some (.tup us)
def VS(K:KP)(α:List Addr)(H:Hp)(a:Addr)(us:List V):Prop :=
 (a ∉ α/\a ∉ K.π/\Rd H a (.lst us))\/∃ (o:Obj) (its:Array Value) (n:Nat),K.K.lookup a=some o/\o.cls = .type "list"/\o.dict=none/\o.data = .seq its n/\its.size <= sizeLine/\Vals us its.toList
def VL(K:KP)(α:List Addr)(H:Hp)(a:Addr)(us:List V):Prop:=a ∉ α/\a ∉ K.π/\H a=some (.lst us)
def VE(K:KP)(α:List Addr)(H:Hp)(a:Addr)(o:HO):Prop:=a ∉ α/\a ∉ K.π/\H a=some o
def b9D(fs:List (Str×Int))(dx:Addr)(h:Heap):Prop:=∃ mA,h.Ns1 dx mA/\PySem.Within mA (fs.map (·.1))/\∀ f,RelO ((fs.lookup f).map V.int) (mA f)
def c1v(C:Addr)(dx:Option Addr)(a:Addr)(h:Heap):Prop:=∃ o vs,h.get? a=some o/\o.cls = .ref C/\o.dict=dx/\o.data = .fields vs
def XQ(K:KP)(α:List Addr)(H:Hp)(dx:Option Addr)(fs:List (Str×Int)):Prop:=(dx=none/\fs=[])\/∃ d,dx=some d/\VE K α H d (.ext (b9D fs d))
theorem XQ.map{K K':KP}{α α':List Addr}{H H':Hp}{dx:Option Addr}{fs:List (Str×Int)}(hE:∀ a o,VE K α H a o->VE K' α' H' a o)(h:XQ K α H dx fs):XQ K' α' H' dx fs:=h.imp id fun ⟨d,e,v⟩=>⟨d,e,hE _ _ v⟩
theorem VT.sq{K:KP}{α:List Addr}{H:Hp}{a:Addr}{us:List V}(h:VT K α H a us):SqT K.K H a us:=.inl (.inl h.2.2)
theorem VS.sq{K:KP}{α:List Addr}{H:Hp}{a:Addr}{us:List V}(h:VS K α H a us):SqL K.K H a us:=by
 rcases h with ⟨_,_,h⟩ | h
 ·exact .inl h
 ·exact .inr h
theorem VL.sq{K:KP}{α:List Addr}{H:Hp}{a:Addr}{us:List V}(h:VL K α H a us):SqL K.K H a us:=SqL.of h.2.2
mutual
inductive RelD(K:KP)(α:List Addr)(H:Hp):D->V->Prop
 |non:RelD K α H .non .non
 |bl (b:Bool):RelD K α H (.bl b) (.bl b)
 |int (i:Int):RelD K α H (.int i) (.int i)
 |str (x:Str):RelD K α H (.str x) (.str x)
 |tup {a:Addr} {us:List V} {ds:List D}:VT K α H a us->RelDs K α H ds us->RelD K α H (.tup ds) (.ref a)
 |lst {a:Addr} {us:List V} {ds:List D}:VL K α H a us->RelDs K α H ds us->RelD K α H (.lst ds) (.ref a)
 |scr {a:Addr} {us:List V} {ds:List D}:VS K α H a us->RelDs K α H ds us->RelD K α H (.scr ds) (.ref a)
 |ref {i:Nat} {a:Addr}:α[i]?=some a->RelD K α H (.ref i) (.ref a)
 |exc {a C:Addr} {dx:Option Addr} {cn:Str} {fs:List (Str×Int)}:PySem.W.nsIn K.K mainGlobals cn=some (some (.ref C))->VE K α H a (.ext (c1v C dx a))->XQ K α H dx fs->RelD K α H (.exc cn fs) (.ref a)
inductive RelDs(K:KP)(α:List Addr)(H:Hp):List D->List V->Prop
 |nil:RelDs K α H [] []
 |cons {d:D} {u:V} {ds:List D} {us:List V}:RelD K α H d u->RelDs K α H ds us->RelDs K α H (d :: ds) (u :: us)
end
theorem RelD.map{K K':KP}{α α':List Addr}{H H':Hp}(hK:K'.K=K.K)(hT:∀ a us,VT K α H a us->VT K' α' H' a us)(hL:∀ a us,VL K α H a us->VL K' α' H' a us)(hS:∀ a us,VS K α H a us->VS K' α' H' a us)(hE:∀ a o,VE K α H a o->VE K' α' H' a o)
  (hR:∀ (i:Nat) (a:Addr),α[i]?=some a->α'[i]?=some a) {d:D} {v:V} (r:RelD K α H d v):RelD K' α' H' d v :=
 RelD.rec (motive_1:=fun d v _=>RelD K' α' H' d v) (motive_2:=fun ds us _=>RelDs K' α' H' ds us) .non .bl .int .str (fun t _ r=>.tup (hT _ _ t) r) (fun t _ r=>.lst (hL _ _ t) r) (fun t _ r=>.scr (hS _ _ t) r) (fun h=>.ref (hR _ _ h)) (fun n t r=>.exc (by rw [hK];exact n) (hE _ _ t) (r.map hE)) .nil (fun _ _ r t=>.cons r t) r
theorem RelDs.map{K K':KP}{α α':List Addr}{H H':Hp}(hK:K'.K=K.K)(hT:∀ a us,VT K α H a us->VT K' α' H' a us)(hL:∀ a us,VL K α H a us->VL K' α' H' a us)(hS:∀ a us,VS K α H a us->VS K' α' H' a us)(hE:∀ a o,VE K α H a o->VE K' α' H' a o)
  (hR:∀ (i:Nat) (a:Addr),α[i]?=some a->α'[i]?=some a) {ds:List D} {us:List V} (r:RelDs K α H ds us):RelDs K' α' H' ds us:=by
 induction ds generalizing us with
 |nil=>cases r;exact .nil
 |cons d ds ih=>cases r with | cons h t=>exact .cons (h.map hK hT hL hS hE hR) (ih t)
structure Ext(α:List Addr)(H:Hp)(α':List Addr)(H':Hp):Prop where
 pre:∃ β,α'=α ++ β/\∀ p ∈ β,H p=none
 keep:∀ b o,H b=some o->b ∉ α->H' b=some o
 dom:∀ b,H' b=none->H b=none
theorem Ext.refl(α:List Addr)(H:Hp):Ext α H α H:=⟨⟨[],by simp,fun p h=>nomatch h⟩,fun _ _ h _=>h,fun _ h=>h⟩
theorem Ext.out{α α':List Addr}{H H':Hp}(e:Ext α H α' H'){a:Addr}{o:HO}(h:a ∉ α)(ho:H a=some o):a ∉ α':=by
 obtain ⟨⟨β,rfl,hb⟩,_⟩:=e;intro z
 rcases List.mem_append.mp z with z | z
 ·exact h z
 ·rw [hb a z] at ho;cases ho
theorem Ext.trans{α α' α'':List Addr}{H H' H'':Hp}(e:Ext α H α' H')(f:Ext α' H' α'' H''):Ext α H α'' H'':=by
 refine ⟨?_,fun b o h n=>f.keep b o (e.keep b o h n) (e.out n h),fun b h=>e.dom b (f.dom b h)⟩;obtain ⟨⟨β,rfl,hb⟩,k,d⟩:=e;obtain ⟨⟨γ,rfl,hc⟩,_⟩:=f;refine ⟨β ++ γ,by simp,fun p hp=>?_⟩
 rcases List.mem_append.mp hp with z | z
 ·exact hb p z
 ·exact d p (hc p z)
theorem Ext.get{α α':List Addr}{H H':Hp}(e:Ext α H α' H'){i:Nat}{a:Addr}(h:α[i]?=some a):α'[i]?=some a:=by
 obtain ⟨⟨β,rfl,_⟩,_⟩:=e;have hi:i < α.length:=(List.getElem?_eq_some_iff.mp h).1;rw [List.getElem?_append_left hi];exact h
theorem Ext.new{α:List Addr}{H:Hp}{p:Addr}{o:HO}(h:H p=none):Ext α H α (upd H p o) :=
 ⟨⟨[],by simp,fun p h=>nomatch h⟩,fun b u e _=>by rw [k6 (B4 e h)];exact e,fun b e=>by
  by_cases z:b=p
  ·subst z;rw [j7] at e;cases e
  ·rw [k6 z] at e;exact e⟩
theorem Ext.newT{α:List Addr}{H:Hp}{p:Addr}{o:HO}(h:H p=none):Ext α H (α ++ [p]) (upd H p o) :=
 ⟨⟨[p],rfl,fun q hq=>by rw [List.mem_singleton.mp hq];exact h⟩,(Ext.new h).keep (α:=α),(Ext.new (α:=α) h).dom⟩
theorem Ext.write{α:List Addr}{H:Hp}{p:Addr}{o:HO}(h:p ∈ α):Ext α H α (upd H p o) :=
 ⟨⟨[],by simp,fun p h=>nomatch h⟩,fun b u e n=>by rw [k6 (fun (z:b=p)=>n (by rw [z];exact h))];exact e,fun b e=>by
  by_cases z:b=p
  ·subst z;rw [j7] at e;cases e
  ·rw [k6 z] at e;exact e⟩
theorem VT.mono{K:KP}{α α':List Addr}{H H':Hp}(e:Ext α H α' H'){a:Addr}{us:List V}(h:VT K α H a us):VT K α' H' a us:=⟨e.out h.1 h.2.2,h.2.1,e.keep _ _ h.2.2 h.1⟩
theorem VS.mono{K:KP}{α α':List Addr}{H H':Hp}(e:Ext α H α' H'){a:Addr}{us:List V}(h:VS K α H a us):VS K α' H' a us:=by
 rcases h with ⟨n,m,h | ⟨o,h⟩⟩ | h
 ·exact .inl ⟨e.out n h,m,.inl (e.keep _ _ h n)⟩
 ·exact .inl ⟨e.out n h,m,.inr ⟨o,e.keep _ _ h n⟩⟩
 ·exact .inr h
theorem VL.mono{K:KP}{α α':List Addr}{H H':Hp}(e:Ext α H α' H'){a:Addr}{us:List V}(h:VL K α H a us):VL K α' H' a us:=⟨e.out h.1 h.2.2,h.2.1,e.keep _ _ h.2.2 h.1⟩
theorem VE.mono{K:KP}{α α':List Addr}{H H':Hp}(e:Ext α H α' H'){a:Addr}{u:HO}(h:VE K α H a u):VE K α' H' a u:=⟨e.out h.1 h.2.2,h.2.1,e.keep _ _ h.2.2 h.1⟩
theorem RelD.mono{K:KP}{α α':List Addr}{H H':Hp}(e:Ext α H α' H'){d:D}{v:V}(r:RelD K α H d v):RelD K α' H' d v:=r.map rfl (fun _ _ t=>t.mono e) (fun _ _ t=>t.mono e) (fun _ _ t=>t.mono e) (fun _ _ t=>t.mono e) (fun _ _ h=>e.get h)
theorem RelDs.mono{K:KP}{α α':List Addr}{H H':Hp}(e:Ext α H α' H'){ds:List D}{us:List V}(r:RelDs K α H ds us):RelDs K α' H' ds us:=r.map rfl (fun _ _ t=>t.mono e) (fun _ _ t=>t.mono e) (fun _ _ t=>t.mono e) (fun _ _ t=>t.mono e) (fun _ _ h=>e.get h)
section
variable {K:KP} {α α':List Addr} {H H':Hp}
theorem RelDs.length:∀ {ds:List D} {us:List V},RelDs K α H ds us->ds.length=us.length
 |_,_,.nil=>rfl
 |_,_,.cons _ t=>by rw [List.length_cons,List.length_cons,RelDs.length t]
theorem RelDs.get:∀ {ds:List D} {us:List V} {i:Nat} {d:D},RelDs K α H ds us->ds[i]?=some d->∃ u,us[i]?=some u/\RelD K α H d u
 |_,_,_,_,.nil,e=>by simp at e
 |_,_,0,_,.cons r _,e=>by simp at e;subst e;exact ⟨_,rfl,r⟩
 |_,_,i + 1,d,.cons _ t,e=>by
  obtain ⟨u,h1,h2⟩:=RelDs.get (i:=i) (d:=d) t (by simpa using e);exact ⟨u,by simpa using h1,h2⟩
theorem RelDs.append:∀ {ds es:List D} {us ws:List V},RelDs K α H ds us->RelDs K α H es ws->RelDs K α H (ds ++ es) (us ++ ws)
 |_,_,_,_,.nil,s=>s
 |_,_,_,_,.cons r t,s=>.cons r (RelDs.append t s)
theorem RelDs.take:∀ {ds:List D} {us:List V} (n:Nat),RelDs K α H ds us->RelDs K α H (ds.take n) (us.take n)
 |_,_,0,_=>.nil
 |_,_,_ + 1,.nil=>.nil
 |_,_,n + 1,.cons r t=>.cons r (RelDs.take n t)
theorem RelDs.drop:∀ {ds:List D} {us:List V} (n:Nat),RelDs K α H ds us->RelDs K α H (ds.drop n) (us.drop n)
 |_,_,0,r=>r
 |_,_,_ + 1,.nil=>.nil
 |_,_,n + 1,.cons _ t=>RelDs.drop n t
theorem RelDs.set{d:D}{u:V}(r:RelD K α H d u):∀ {ds:List D} {us:List V} (i:Nat),RelDs K α H ds us->RelDs K α H (ds.set i d) (us.set i u)
 |_,_,_,.nil=>.nil
 |_,_,0,.cons _ t=>.cons r t
 |_,_,i + 1,.cons q t=>.cons q (RelDs.set r i t)
theorem RelDs.dropLast{ds:List D}{us:List V}(r:RelDs K α H ds us):RelDs K α H ds.dropLast us.dropLast:=by
 rw [List.dropLast_eq_take,List.dropLast_eq_take,r.length];exact r.take _
theorem RelDs.snoc{ds:List D}{us:List V}{d:D}{u:V}(r:RelDs K α H ds us)(h:RelD K α H d u):RelDs K α H (ds ++ [d]) (us ++ [u]):=r.append (.cons h .nil)
theorem RelDs.ints:∀ ns:List Int,RelDs K α H (ns.map D.int) (ns.map V.int)
 |[]=>.nil
 |n :: r=>.cons (.int n) (RelDs.ints r)
theorem RelDs.ints_inv{ns:List Int}{us:List V}(r:RelDs K α H (ns.map D.int) us):us=ns.map V.int:=by
 induction ns generalizing us with
 |nil=>cases r;rfl
 |cons n ns ih=>cases r with | cons h t=>cases h;rw [ih t];rfl
theorem RelDs.inv1{d:D}{us:List V}(h:RelDs K α H [d] us):∃ u,us=[u]/\RelD K α H d u:=by
 cases h with
 |cons r t=>cases t;exact ⟨_,rfl,r⟩
theorem RelDs.inv2{d e:D}{us:List V}(h:RelDs K α H [d,e] us):∃ u v,us=[u,v]/\RelD K α H d u/\RelD K α H e v:=by
 cases h with
 |cons r t =>
  obtain ⟨v,rfl,q⟩:=t.inv1;exact ⟨_,_,rfl,r,q⟩
end
inductive RelKV(K:KP)(α:List Addr)(H:Hp){κ:Type}:List (κ×D)->List (κ×V)->Prop
 |nil:RelKV K α H [] []
 |cons {k:κ} {d:D} {u:V} {ds:List (κ×D)} {us:List (κ×V)}:RelD K α H d u->RelKV K α H ds us->RelKV K α H ((k,d) :: ds) ((k,u) :: us)
theorem RelKV.mono{K:KP}{α α':List Addr}{H H':Hp}{κ:Type}(e:Ext α H α' H'){ds:List (κ×D)}{us:List (κ×V)}(r:RelKV K α H ds us):RelKV K α' H' ds us:=by
 induction r with
 |nil=>exact .nil
 |cons h t ih=>exact .cons (h.mono e) ih
def c0z:Option Obj->HO->HO
 |none,u=>u
 |some o,u=>.frz o u
inductive RelO'(K:KP)(α:List Addr)(H:Hp)(p:Addr):O->Prop
 |lst {xs:List D} {us:List V}:H p=some (.lst us)->RelDs K α H xs us->RelO' K α H p (.lst xs)
 |dT {z:Option Obj} {kvs:List (List Key×D)} {us:List (List Key×V)}:H p=some (c0z z (.dT us))->RelKV K α H kvs us->RelO' K α H p (.dT z kvs)
 |dK {kvs:List (Key×D)} {us:List (Key×V)}:H p=some (.dK us)->RelKV K α H kvs us->RelO' K α H p (.dK kvs)
 |ins {C dx:Addr} {cn:Str} {fs:List (Str×D)} {us:List (Str×V)}:PySem.W.nsIn K.K mainGlobals cn=some (some (.ref C))->H p=some (.ins C dx us)->RelKV K α H fs us->RelO' K α H p (.ins cn fs)
def NoT(o:Option HO):Prop:=o ≠ none/\∀ us,o ≠ some (.tup us)
structure HRel(K:KP)(α:List Addr)(H:Hp)(h:List O):Prop where
 len:α.length=h.length
 nd:α.Nodup
 dis:∀ p ∈ K.π,p ∉ α/\NoT (H p)
 obj:∀ (i:Nat) (o:O),h[i]?=some o->∃ p,α[i]?=some p/\RelO' K α H p o
theorem NoT.ext{α α':List Addr}{H H':Hp}{p:Addr}(h:NoT (H p))(e:Ext α H α' H')(n:p ∉ α):NoT (H' p):=by
 cases q:H p with
 |none=>exact absurd q h.1
 |some o =>
  rw [e.keep p o q n];rw [q] at h;exact h
theorem RelO'.mono{K:KP}{α α':List Addr}{H H':Hp}(e:Ext α H α' H'){p:Addr}{o:O}(r:RelO' K α H p o)(k:H' p=H p):RelO' K α' H' p o:=by
 cases r with
 |lst h t=>exact .lst (k.trans h) (t.mono e)
 |dT h t=>exact .dT (k.trans h) (t.mono e)
 |dK h t=>exact .dK (k.trans h) (t.mono e)
 |ins n h t=>exact .ins n (k.trans h) (t.mono e)
section
variable {K:KP} {α α':List Addr} {H H':Hp} {h:List O}
theorem HRel.some_(R:HRel K α H h){p:Addr}(hp:p ∈ α):∃ o,H p=some o:=by
 obtain ⟨i,hi,rfl⟩:=List.getElem_of_mem hp;have hh:i < h.length:=by rw [<- R.len];exact hi
 obtain ⟨q,e,r⟩:=R.obj i h[i] (List.getElem?_eq_getElem hh);rw [List.getElem?_eq_getElem hi] at e;cases e;generalize h[i]=o at r
 cases r with
 |lst h t=>exact ⟨_,h⟩
 |dT h t=>exact ⟨_,h⟩
 |dK h t=>exact ⟨_,h⟩
 |ins n h t=>exact ⟨_,h⟩
theorem HRel.out(R:HRel K α H h){p:Addr}(hp:H p=none):p ∉ α:=fun z=>by
 obtain ⟨o,e⟩:=R.some_ z;rw [hp] at e;cases e
theorem HRel.same(R:HRel K α H h)(e:Ext α H α H')(k:∀ p ∈ α,H' p=H p):HRel K α H' h :=
 ⟨R.len,R.nd,fun p hp=>⟨(R.dis p hp).1,(R.dis p hp).2.ext e (R.dis p hp).1⟩,fun i o q=>by
  obtain ⟨p,ep,r⟩:=R.obj i o q;exact ⟨p,ep,r.mono e (k p (List.mem_of_getElem? ep))⟩⟩
theorem HRel.new(R:HRel K α H h){p:Addr}{o:HO}(hp:H p=none):HRel K α (upd H p o) h :=
 R.same (Ext.new hp) fun q hq=>k6 fun z=>R.out hp (z ▸ hq)
theorem HRel.newT(R:HRel K α H h){p:Addr}{o:HO}{u:O}(hp:H p=none)(r:RelO' K (α ++ [p]) (upd H p o) p u):HRel K (α ++ [p]) (upd H p o) (h ++ [u]):=by
 have np:=R.out hp;refine ⟨by simp [R.len],?_,fun q hq=>⟨fun z=>?_,(R.dis q hq).2.ext (Ext.new (α:=α) hp) (R.dis q hq).1⟩,fun i v q=>?_⟩
 ·rw [List.nodup_append];exact ⟨R.nd,by simp,fun a ha b hb=>by rw [List.mem_singleton.mp hb];exact fun z=>np (z ▸ ha)⟩
 ·rcases List.mem_append.mp z with z | z
  ·exact (R.dis q hq).1 z
  ·rw [List.mem_singleton.mp z] at hq;exact (R.dis p hq).2.1 hp
 ·by_cases hi:i < h.length
  ·rw [List.getElem?_append_left hi] at q;obtain ⟨a,ea,ra⟩:=R.obj i v q;refine ⟨a,(Ext.newT (o:=o) hp).get ea,ra.mono (Ext.newT hp) (k6 fun z=>np (z ▸ List.mem_of_getElem? ea))⟩
  ·have hi':i=h.length:=by
    have:=(List.getElem?_eq_some_iff.mp q).1
    rw [List.length_append,List.length_singleton] at this;omega
   subst hi';rw [List.getElem?_append_right (Nat.le_refl _)] at q
   simp at q;subst q;exact ⟨p,by rw [List.getElem?_append_right (by rw [R.len];exact Nat.le_refl _),R.len];simp,r⟩
theorem HRel.write(R:HRel K α H h){p:Addr}{i:Nat}{o:HO}{u:O}(hp:α[i]?=some p)(r:RelO' K α (upd H p o) p u):HRel K α (upd H p o) (h.set i u):=by
 have hm:=List.mem_of_getElem? hp;refine ⟨by simp [R.len],R.nd,fun q hq=>⟨(R.dis q hq).1,(R.dis q hq).2.ext (Ext.write (H:=H) (o:=o) hm) (R.dis q hq).1⟩,fun j v q=>?_⟩
 by_cases e:i=j
 ·subst e
  have hi:i < h.length:=by
   have:=(List.getElem?_eq_some_iff.mp q).1
   simpa using this
  rw [List.getElem?_set_self hi] at q;cases q;exact ⟨p,hp,r⟩
 ·rw [List.getElem?_set_ne e] at q;obtain ⟨a,ea,ra⟩:=R.obj j v q;refine ⟨a,ea,ra.mono (Ext.write hm) (k6 fun z=>e ?_)⟩;subst z;exact (List.getElem?_inj (List.getElem?_eq_some_iff.mp hp).1 R.nd).mp (hp.trans ea.symm)
theorem HRel.lst(R:HRel K α H h){i:Nat}{xs:List D}(e:h[i]?=some (.lst xs)):∃ p us,α[i]?=some p/\H p=some (.lst us)/\RelDs K α H xs us:=by
 obtain ⟨p,ep,r⟩:=R.obj i _ e
 cases r with
 |lst h t=>exact ⟨p,_,ep,h,t⟩
theorem HRel.dT(R:HRel K α H h){i:Nat}{z:Option Obj}{xs:List (List Key×D)}(e:h[i]?=some (.dT z xs)):∃ p us,α[i]?=some p/\H p=some (c0z z (.dT us))/\RelKV K α H xs us:=by
 obtain ⟨p,ep,r⟩:=R.obj i _ e
 cases r with
 |dT h t=>exact ⟨p,_,ep,h,t⟩
theorem HRel.ins(R:HRel K α H h){i:Nat}{cn:Str}{xs:List (Str×D)}(e:h[i]?=some (.ins cn xs)):∃ p C dx us,PySem.W.nsIn K.K mainGlobals cn=some (some (.ref C))/\α[i]?=some p/\H p=some (.ins C dx us)/\RelKV K α H xs us:=by
 obtain ⟨p,ep,r⟩:=R.obj i _ e
 cases r with
 |ins n h t=>exact ⟨p,_,_,_,n,ep,h,t⟩
end
theorem HRel.outP{K:KP}{α:List Addr}{H:Hp}{h:List O}(R:HRel K α H h){p:Addr}(hp:H p=none):p ∉ K.π:=fun z=>(R.dis p z).2.1 hp
structure Z3(D:Addr)(H H':Hp):Prop where
 same:∀ b,b ≠ D->H' b=H b
theorem VT.priv{K:KP}{α:List Addr}{H H':Hp}{D a:Addr}{us:List V}(e:Z3 D H H')(hD:D ∈ K.π)(h:VT K α H a us):VT K α H' a us :=
 ⟨h.1,h.2.1,(e.same a fun z=>h.2.1 (z ▸ hD)).trans h.2.2⟩
theorem VS.priv{K:KP}{α:List Addr}{H H':Hp}{D a:Addr}{us:List V}(e:Z3 D H H')(hD:D ∈ K.π)(h:VS K α H a us):VS K α H' a us:=by
 rcases h with ⟨n,m,h⟩ | h
 ·have z:a ≠ D:=fun z=>m (z ▸ hD);refine .inl ⟨n,m,?_⟩;unfold Rd at h ⊢;rw [e.same a z];exact h
 ·exact .inr h
theorem VL.priv{K:KP}{α:List Addr}{H H':Hp}{D a:Addr}{us:List V}(e:Z3 D H H')(hD:D ∈ K.π)(h:VL K α H a us):VL K α H' a us :=
 ⟨h.1,h.2.1,(e.same a fun z=>h.2.1 (z ▸ hD)).trans h.2.2⟩
theorem VE.priv{K:KP}{α:List Addr}{H H':Hp}{D a:Addr}{u:HO}(e:Z3 D H H')(hD:D ∈ K.π)(h:VE K α H a u):VE K α H' a u :=
 ⟨h.1,h.2.1,(e.same a fun z=>h.2.1 (z ▸ hD)).trans h.2.2⟩
theorem RelD.priv{K:KP}{α:List Addr}{H H':Hp}{D':Addr}(e:Z3 D' H H')(hD:D' ∈ K.π){d:D}{v:V}(r:RelD K α H d v):RelD K α H' d v:=r.map rfl (fun _ _ t=>t.priv e hD) (fun _ _ t=>t.priv e hD) (fun _ _ t=>t.priv e hD) (fun _ _ t=>t.priv e hD) (fun _ _ h=>h)
theorem RelDs.priv{K:KP}{α:List Addr}{H H':Hp}{D':Addr}(e:Z3 D' H H')(hD:D' ∈ K.π){ds:List D}{us:List V}(r:RelDs K α H ds us):RelDs K α H' ds us:=r.map rfl (fun _ _ t=>t.priv e hD) (fun _ _ t=>t.priv e hD) (fun _ _ t=>t.priv e hD) (fun _ _ t=>t.priv e hD) (fun _ _ h=>h)
theorem RelKV.priv{K:KP}{α:List Addr}{H H':Hp}{D':Addr}{κ:Type}(e:Z3 D' H H')(hD:D' ∈ K.π){ds:List (κ×D)}{us:List (κ×V)}(r:RelKV K α H ds us):RelKV K α H' ds us:=by
 induction r with
 |nil=>exact .nil
 |cons h t ih=>exact .cons (h.priv e hD) ih
theorem HRel.priv{K:KP}{α:List Addr}{H H':Hp}{h:List O}{D':Addr}(e:Z3 D' H H')(hD:D' ∈ K.π)(hs:NoT (H' D'))(R:HRel K α H h):HRel K α H' h :=
 ⟨R.len,R.nd,fun p hp=>⟨(R.dis p hp).1,by
  by_cases z:p=D'
  ·rw [z];exact hs
  ·rw [e.same p z];exact (R.dis p hp).2⟩,fun i o q=>by
  obtain ⟨p,ep,r⟩:=R.obj i o q;have z:p ≠ D':=fun z=>(R.dis D' hD).1 (z ▸ List.mem_of_getElem? ep);refine ⟨p,ep,?_⟩
  cases r with
  |lst h t=>exact .lst ((e.same p z).trans h) (t.priv e hD)
  |dT h t=>exact .dT ((e.same p z).trans h) (t.priv e hD)
  |dK h t=>exact .dK ((e.same p z).trans h) (t.priv e hD)
  |ins n h t=>exact .ins n ((e.same p z).trans h) (t.priv e hD)⟩
theorem VT.more{K:PySem.W.Frag}{π π':List Addr}{α:List Addr}{H:Hp}{a:Addr}{us:List V}(s:∀ p ∈ π',p ∈ π\/H p=none)(h:VT ⟨K,π⟩ α H a us):VT ⟨K,π'⟩ α H a us :=
 ⟨h.1,fun z=>(s a z).elim h.2.1 (fun w=>by rw [h.2.2] at w;exact nomatch w),h.2.2⟩
theorem VS.more{K:PySem.W.Frag}{π π':List Addr}{α:List Addr}{H:Hp}{a:Addr}{us:List V}(s:∀ p ∈ π',p ∈ π\/H p=none)(h:VS ⟨K,π⟩ α H a us):VS ⟨K,π'⟩ α H a us:=by
 rcases h with ⟨n,m,h⟩ | h
 ·refine .inl ⟨n,fun z=>?_,h⟩
  rcases s a z with z | z
  ·exact m z
  ·rcases h with h | ⟨o,h⟩ <;> rw [z] at h <;> cases h
 ·exact .inr h
theorem VL.more{K:PySem.W.Frag}{π π':List Addr}{α:List Addr}{H:Hp}{a:Addr}{us:List V}(s:∀ p ∈ π',p ∈ π\/H p=none)(h:VL ⟨K,π⟩ α H a us):VL ⟨K,π'⟩ α H a us :=
 ⟨h.1,fun z=>(s a z).elim h.2.1 (fun w=>by rw [h.2.2] at w;exact nomatch w),h.2.2⟩
theorem VE.more{K:PySem.W.Frag}{π π':List Addr}{α:List Addr}{H:Hp}{a:Addr}{u:HO}(s:∀ p ∈ π',p ∈ π\/H p=none)(h:VE ⟨K,π⟩ α H a u):VE ⟨K,π'⟩ α H a u :=
 ⟨h.1,fun z=>(s a z).elim h.2.1 (fun w=>by rw [h.2.2] at w;exact nomatch w),h.2.2⟩
theorem RelD.more{K:PySem.W.Frag}{π π':List Addr}{α:List Addr}{H:Hp}(s:∀ p ∈ π',p ∈ π\/H p=none){d:D}{v:V}(r:RelD ⟨K,π⟩ α H d v):RelD ⟨K,π'⟩ α H d v:=r.map (K:=⟨K,π⟩) (K':=⟨K,π'⟩) rfl (fun _ _ t=>t.more s) (fun _ _ t=>t.more s) (fun _ _ t=>t.more s) (fun _ _ t=>t.more s) (fun _ _ h=>h)
theorem RelDs.more{K:PySem.W.Frag}{π π':List Addr}{α:List Addr}{H:Hp}(s:∀ p ∈ π',p ∈ π\/H p=none){ds:List D}{us:List V}(r:RelDs ⟨K,π⟩ α H ds us):RelDs ⟨K,π'⟩ α H ds us:=r.map (K:=⟨K,π⟩) (K':=⟨K,π'⟩) rfl (fun _ _ t=>t.more s) (fun _ _ t=>t.more s) (fun _ _ t=>t.more s) (fun _ _ t=>t.more s) (fun _ _ h=>h)
theorem RelKV.more{K:PySem.W.Frag}{π π':List Addr}{α:List Addr}{H:Hp}{κ:Type}(s:∀ p ∈ π',p ∈ π\/H p=none){ds:List (κ×D)}{us:List (κ×V)}(r:RelKV ⟨K,π⟩ α H ds us):RelKV ⟨K,π'⟩ α H ds us:=by
 induction r with
 |nil=>exact .nil
 |cons h t ih=>exact .cons (h.more s) ih
theorem HRel.more{K:PySem.W.Frag}{π π':List Addr}{α:List Addr}{H:Hp}{h:List O}(s:∀ p ∈ π',p ∈ π\/H p=none)(d:∀ p ∈ π',p ∉ α/\NoT (H p))(R:HRel ⟨K,π⟩ α H h):HRel ⟨K,π'⟩ α H h :=
 ⟨R.len,R.nd,d,fun i o q=>by
  obtain ⟨p,ep,r⟩:=R.obj i o q;refine ⟨p,ep,?_⟩
  cases r with
  |lst h t=>exact .lst h (t.more s)
  |dT h t=>exact .dT h (t.more s)
  |dK h t=>exact .dK h (t.more s)
  |ins n h t=>exact .ins n h (t.more s)⟩
abbrev Sl:=List (Option D)
abbrev Hh:=List O
abbrev DK:=D->Hh->Prop
abbrev DE:=Sl->Hh->DK->Prop
abbrev DT:=Sl->Hh->(Bool->Hh->Prop)->Prop
abbrev DA:=Sl->Hh->(List D->Hh->Prop)->Prop
abbrev DX:=Str->List (Str×Int)->Hh->Prop
structure E8 where
 nx:Sl->Hh->Prop
 rt:DK
 bk:Sl->Hh->Prop:=fun _ _=>False
 ct:Sl->Hh->Prop:=fun _ _=>False
 ex:DX:=fun _ _ _=>False
abbrev DS:=E8->Sl->Hh->Prop
abbrev DG:=D->Sl->Hh->(Sl->Hh->Prop)->Prop
abbrev DGs:=List D->Sl->Hh->(Sl->Hh->Prop)->Prop
structure RelS(K:KP)(α:List Addr)(H:Hp)(δ:Sl)(σ:St):Prop where
 len:δ.length=σ.length
 get:∀ (i:Nat) (d:D),δ[i]?=some (some d)->∃ v,σ[i]?=some (some v)/\RelD K α H d v
theorem RelS.mono{K:KP}{α α':List Addr}{H H':Hp}{δ:Sl}{σ:St}(e:Ext α H α' H')(r:RelS K α H δ σ):RelS K α' H' δ σ :=
 ⟨r.len,fun i d q=>let ⟨v,h1,h2⟩:=r.get i d q;⟨v,h1,h2.mono e⟩⟩
theorem RelS.set{K:KP}{α:List Addr}{H:Hp}{δ:Sl}{σ:St}{d:D}{v:V}(r:RelS K α H δ σ)(i:Nat)(h:RelD K α H d v):RelS K α H (δ.set i (some d)) (σ.set i (some v)):=by
 refine ⟨by simp [r.len],fun j e q=>?_⟩
 by_cases z:i=j
 ·subst z
  have hi:i < δ.length:=by
   have:=(List.getElem?_eq_some_iff.mp q).1
   simpa using this
  rw [List.getElem?_set_self hi] at q;cases q;exact ⟨v,List.getElem?_set_self (by rw [<- r.len];exact hi),h⟩
 ·rw [List.getElem?_set_ne z] at q;obtain ⟨w,h1,h2⟩:=r.get j e q;exact ⟨w,by rw [List.getElem?_set_ne z];exact h1,h2⟩
inductive LE(K:PySem.W.Frag)(f:DE)(σ:St)(H:Hp)(Q:VK):Prop
 |mk (π:List Addr) (α:List Addr) (δ:Sl) (h:Hh) (Q':DK):HRel ⟨K,π⟩ α H h->RelS ⟨K,π⟩ α H δ σ->f δ h Q'->(∀ d h' α' H' v,Q' d h'->Ext α H α' H'->HRel ⟨K,π⟩ α' H' h'->RelD ⟨K,π⟩ α' H' d v->Q v H')->LE K f σ H Q
inductive LT(K:PySem.W.Frag)(f:DT)(σ:St)(H:Hp)(Q:Bool->Hp->Prop):Prop
 |mk (π:List Addr) (α:List Addr) (δ:Sl) (h:Hh) (Q':Bool->Hh->Prop):HRel ⟨K,π⟩ α H h->RelS ⟨K,π⟩ α H δ σ->f δ h Q'->(∀ b h' α' H',Q' b h'->Ext α H α' H'->HRel ⟨K,π⟩ α' H' h'->Q b H')->LT K f σ H Q
inductive LA(K:PySem.W.Frag)(n:Nat)(f:DA)(σ:St)(H:Hp)(Q:List V->Hp->Prop):Prop
 |mk (π:List Addr) (α:List Addr) (δ:Sl) (h:Hh) (Q':List D->Hh->Prop):HRel ⟨K,π⟩ α H h->RelS ⟨K,π⟩ α H δ σ->f δ h Q'->(∀ ds h' α' H' vs,Q' ds h'->Ext α H α' H'->HRel ⟨K,π⟩ α' H' h'->RelDs ⟨K,π⟩ α' H' ds vs->ds.length=n->Q vs H')->LA K n f σ H Q
structure EndsOk(K:KP)(Ex:XK)(α:List Addr)(H:Hp)(E:E8)(F:a0O):Prop where
 nx:∀ δ' h' α' H' σ',E.nx δ' h'->Ext α H α' H'->HRel K α' H' h'->RelS K α' H' δ' σ'->F.nx σ' H'
 rt:∀ d h' α' H' v,E.rt d h'->Ext α H α' H'->HRel K α' H' h'->RelD K α' H' d v->F.rt v H'
 bk:∀ δ' h' α' H' σ',E.bk δ' h'->Ext α H α' H'->HRel K α' H' h'->RelS K α' H' δ' σ'->F.bk σ' H'
 ct:∀ δ' h' α' H' σ',E.ct δ' h'->Ext α H α' H'->HRel K α' H' h'->RelS K α' H' δ' σ'->F.ct σ' H'
 ex:∀ cn fs h' α' H' C dx,E.ex cn fs h'->Ext α H α' H'->HRel K α' H' h'->PySem.W.nsIn K.K mainGlobals cn=some (some (.ref C))->XQ K α' H' dx fs->Ex (.ref C) dx H'
theorem EndsOk.mono{K:KP}{Ex:XK}{α α':List Addr}{H H':Hp}{E:E8}{F:a0O}(x:EndsOk K Ex α H E F)(e:Ext α H α' H'):EndsOk K Ex α' H' E F :=
 ⟨fun _ _ _ _ _ a b c d=>x.nx _ _ _ _ _ a (e.trans b) c d,fun _ _ _ _ _ a b c d=>x.rt _ _ _ _ _ a (e.trans b) c d,fun _ _ _ _ _ a b c d=>x.bk _ _ _ _ _ a (e.trans b) c d,fun _ _ _ _ _ a b c d=>x.ct _ _ _ _ _ a (e.trans b) c d,fun _ _ _ _ _ _ _ a b c d=>x.ex _ _ _ _ _ _ _ a (e.trans b) c d⟩
inductive LS(K:PySem.W.Frag)(Ex:XK)(f:DS)(F:a0O)(σ:St)(H:Hp):Prop
 |mk (π:List Addr) (α:List Addr) (δ:Sl) (h:Hh) (E:E8):HRel ⟨K,π⟩ α H h->RelS ⟨K,π⟩ α H δ σ->f E δ h->EndsOk ⟨K,π⟩ Ex α H E F->LS K Ex f F σ H
inductive LG(K:PySem.W.Frag)(f:DG)(v:V)(σ:St)(H:Hp)(Q:St->Hp->Prop):Prop
 |mk (π:List Addr) (α:List Addr) (δ:Sl) (h:Hh) (d:D) (Q':Sl->Hh->Prop):HRel ⟨K,π⟩ α H h->RelS ⟨K,π⟩ α H δ σ->RelD ⟨K,π⟩ α H d v->f d δ h Q'->(∀ δ' h' α' H' σ',Q' δ' h'->Ext α H α' H'->HRel ⟨K,π⟩ α' H' h'->RelS ⟨K,π⟩ α' H' δ' σ'->Q σ' H')->LG K f v σ H Q
inductive LGs(K:PySem.W.Frag)(f:DGs)(vs:List V)(σ:St)(H:Hp)(Q:St->Hp->Prop):Prop
 |mk (π:List Addr) (α:List Addr) (δ:Sl) (h:Hh) (ds:List D) (Q':Sl->Hh->Prop):HRel ⟨K,π⟩ α H h->RelS ⟨K,π⟩ α H δ σ->RelDs ⟨K,π⟩ α H ds vs->f ds δ h Q'->(∀ δ' h' α' H' σ',Q' δ' h'->Ext α H α' H'->HRel ⟨K,π⟩ α' H' h'->RelS ⟨K,π⟩ α' H' δ' σ'->Q σ' H')->LGs K f vs σ H Q
theorem HRel.under{K:PySem.W.Frag}{π α:List Addr}{H:Hp}{h:Hh}{p:Addr}{o:HO}(R:HRel ⟨K,π⟩ α H h)(hp:H p=none)(ho:∀ us,o ≠ .tup us:=by intro _ z;cases z):HRel ⟨K,p :: π⟩ α (upd H p o) h:=by
 have s:∀ q ∈ p :: π,q ∈ π\/H q=none:=fun q hq=>by
  rcases List.mem_cons.mp hq with rfl | z
  ·exact .inr hp
  ·exact .inl z
 refine ⟨R.len,R.nd,fun q hq=>?_,fun i ob e=>?_⟩
 ·rcases List.mem_cons.mp hq with rfl | z
  ·exact ⟨R.out hp,by rw [j7];exact ⟨(fun z=>by cases z),fun us z=>ho us (Option.some.inj z)⟩⟩
  ·exact ⟨(R.dis q z).1,(R.dis q z).2.ext (Ext.new (α:=α) hp) (R.dis q z).1⟩
 ·obtain ⟨a,ea,r⟩:=R.obj i ob e;refine ⟨a,ea,?_⟩;have k:upd H p o a=H a:=k6 fun z=>R.out hp (z ▸ List.mem_of_getElem? ea);have e2:Ext α H α (upd H p o):=Ext.new hp
  cases r with
  |lst h t=>exact .lst (k.trans h) ((t.more s).mono e2)
  |dT h t=>exact .dT (k.trans h) ((t.more s).mono e2)
  |dK h t=>exact .dK (k.trans h) ((t.more s).mono e2)
  |ins n h t=>exact .ins n (k.trans h) ((t.more s).mono e2)
theorem HRel.less{K:PySem.W.Frag}{π α:List Addr}{H:Hp}{h:Hh}{p:Addr}(R:HRel ⟨K,p :: π⟩ α H h):HRel ⟨K,π⟩ α H h :=
 R.more (fun q hq=>.inl (List.mem_cons_of_mem _ hq)) fun q hq=>R.dis q (List.mem_cons_of_mem _ hq)
theorem RelS.more{K:PySem.W.Frag}{π π' α:List Addr}{H:Hp}{δ:Sl}{σ:L2.St}(s:∀ p ∈ π',p ∈ π\/H p=none)(S:RelS ⟨K,π⟩ α H δ σ):RelS ⟨K,π'⟩ α H δ σ :=
 ⟨S.len,fun i d q=>let ⟨v,a,b⟩:=S.get i d q;⟨v,a,b.more s⟩⟩
theorem RelS.priv{K:KP}{α:List Addr}{H H':Hp}{δ:Sl}{σ:L2.St}{D':Addr}(e:Z3 D' H H')(hD:D' ∈ K.π)(S:RelS K α H δ σ):RelS K α H' δ σ :=
 ⟨S.len,fun i d q=>let ⟨v,a,b⟩:=S.get i d q;⟨v,a,b.priv e hD⟩⟩
theorem Ext.grow{α α':List Addr}{H H':Hp}{p:Addr}{o:HO}(e:Ext α H α' H')(hp:H p=none):Ext α H α' (upd H' p o) :=
 ⟨e.pre,fun b u q n=>by rw [k6 (B4 q hp)];exact e.keep b u q n,fun b q=>by
  by_cases z:b=p
  ·subst z;exact hp
  ·rw [k6 z] at q;exact e.dom b q⟩
theorem VT.adopt{K:PySem.W.Frag}{π α:List Addr}{H:Hp}{p a:Addr}{us:List V}(h:VT ⟨K,p :: π⟩ α H a us):VT ⟨K,π⟩ (α ++ [p]) H a us :=
 ⟨fun z=>(List.mem_append.mp z).elim h.1 fun z=>h.2.1 (by rw [List.mem_singleton.mp z];exact List.mem_cons_self),fun z=>h.2.1 (List.mem_cons_of_mem _ z),h.2.2⟩
theorem VS.adopt{K:PySem.W.Frag}{π α:List Addr}{H:Hp}{p a:Addr}{us:List V}(h:VS ⟨K,p :: π⟩ α H a us):VS ⟨K,π⟩ (α ++ [p]) H a us:=by
 rcases h with ⟨n,m,h⟩ | h
 ·refine .inl ⟨fun z=>?_,fun z=>m (List.mem_cons_of_mem _ z),h⟩
  rcases List.mem_append.mp z with z | z
  ·exact n z
  ·exact m (by rw [List.mem_singleton.mp z];exact List.mem_cons_self)
 ·exact .inr h
theorem VL.adopt{K:PySem.W.Frag}{π α:List Addr}{H:Hp}{p a:Addr}{us:List V}(h:VL ⟨K,p :: π⟩ α H a us):VL ⟨K,π⟩ (α ++ [p]) H a us :=
 ⟨fun z=>(List.mem_append.mp z).elim h.1 fun z=>h.2.1 (by rw [List.mem_singleton.mp z];exact List.mem_cons_self),fun z=>h.2.1 (List.mem_cons_of_mem _ z),h.2.2⟩
theorem VE.adopt{K:PySem.W.Frag}{π α:List Addr}{H:Hp}{p a:Addr}{u:HO}(h:VE ⟨K,p :: π⟩ α H a u):VE ⟨K,π⟩ (α ++ [p]) H a u :=
 ⟨fun z=>(List.mem_append.mp z).elim h.1 fun z=>h.2.1 (by rw [List.mem_singleton.mp z];exact List.mem_cons_self),fun z=>h.2.1 (List.mem_cons_of_mem _ z),h.2.2⟩
theorem a2h{α:List Addr}{p a:Addr}{i:Nat}(h:α[i]?=some a):(α ++ [p])[i]?=some a:=by
 rw [List.getElem?_append_left (List.getElem?_eq_some_iff.mp h).1];exact h
theorem RelD.adopt{K:PySem.W.Frag}{π α:List Addr}{H:Hp}{p:Addr}{d:D}{v:V}(r:RelD ⟨K,p :: π⟩ α H d v):RelD ⟨K,π⟩ (α ++ [p]) H d v:=r.map (K:=⟨K,p :: π⟩) (K':=⟨K,π⟩) (α':=α ++ [p]) (H':=H) rfl (fun _ _ t=>t.adopt) (fun _ _ t=>t.adopt) (fun _ _ t=>t.adopt) (fun _ _ t=>t.adopt) (fun _ _ h=>a2h h)
theorem RelDs.adopt{K:PySem.W.Frag}{π α:List Addr}{H:Hp}{p:Addr}{ds:List D}{us:List V}(r:RelDs ⟨K,p :: π⟩ α H ds us):RelDs ⟨K,π⟩ (α ++ [p]) H ds us:=r.map (K:=⟨K,p :: π⟩) (K':=⟨K,π⟩) (α':=α ++ [p]) (H':=H) rfl (fun _ _ t=>t.adopt) (fun _ _ t=>t.adopt) (fun _ _ t=>t.adopt) (fun _ _ t=>t.adopt) (fun _ _ h=>a2h h)
theorem RelKV.adopt{K:PySem.W.Frag}{π α:List Addr}{H:Hp}{p:Addr}{κ:Type}{ds:List (κ×D)}{us:List (κ×V)}(r:RelKV ⟨K,p :: π⟩ α H ds us):RelKV ⟨K,π⟩ (α ++ [p]) H ds us:=by
 induction r with
 |nil=>exact .nil
 |cons h t ih=>exact .cons h.adopt ih
theorem HRel.adopt{K:PySem.W.Frag}{π α:List Addr}{H:Hp}{h:Hh}{p:Addr}{u:O}(R:HRel ⟨K,p :: π⟩ α H h)(np:p ∉ π)(r:RelO' ⟨K,π⟩ (α ++ [p]) H p u):HRel ⟨K,π⟩ (α ++ [p]) H (h ++ [u]):=by
 have hp:=R.dis p List.mem_cons_self;refine ⟨by simp [R.len],?_,fun q hq=>⟨fun z=>?_,(R.dis q (List.mem_cons_of_mem _ hq)).2⟩,fun i v q=>?_⟩
 ·rw [List.nodup_append];exact ⟨R.nd,by simp,fun a ha b hb=>by rw [List.mem_singleton.mp hb];exact fun z=>hp.1 (z ▸ ha)⟩
 ·rcases List.mem_append.mp z with z | z
  ·exact (R.dis q (List.mem_cons_of_mem _ hq)).1 z
  ·rw [List.mem_singleton.mp z] at hq;exact np hq
 ·by_cases hi:i < h.length
  ·rw [List.getElem?_append_left hi] at q;obtain ⟨a,ea,ra⟩:=R.obj i v q;refine ⟨a,a2h ea,?_⟩
   cases ra with
   |lst h t=>exact .lst h t.adopt
   |dT h t=>exact .dT h t.adopt
   |dK h t=>exact .dK h t.adopt
   |ins n h t=>exact .ins n h t.adopt
  ·have hi':i=h.length:=by
    have:=(List.getElem?_eq_some_iff.mp q).1
    rw [List.length_append,List.length_singleton] at this;omega
   subst hi';rw [List.getElem?_append_right (Nat.le_refl _)] at q
   simp at q;subst q;exact ⟨p,by rw [List.getElem?_append_right (by rw [R.len];exact Nat.le_refl _),R.len];simp,r⟩
theorem Ext.adopt{α α':List Addr}{H H':Hp}{p:Addr}(e:Ext α H α' H')(hp:H p=none):Ext α H (α' ++ [p]) H':=by
 refine ⟨?_,e.keep,e.dom⟩;obtain ⟨⟨β,rfl,hb⟩,_⟩:=e
 exact ⟨β ++ [p],by simp,fun q hq=>by
  rcases List.mem_append.mp hq with z | z
  ·exact hb q z
  ·rw [List.mem_singleton.mp z];exact hp⟩
section
variable (X:Cx)
def SE(e:Expr)(f:DE):Prop:=PE X e (LE X.K f)
def ST(e:Expr)(f:DT):Prop:=PT X e (LT X.K f)
def SW(e:Expr)(f:DT):Prop:=PW X e (LT X.K f)
def SA(es:List Expr)(n:Nat)(f:DA):Prop:=PA X es (LA X.K n f)
def SS(s:Stmt)(f:DS):Prop:=PS X s (LS X.K X.ex9 f)
def SSs(ss:List Stmt)(f:DS):Prop:=PSs X ss (LS X.K X.ex9 f)
def SG(t:Expr)(f:DG):Prop:=PG X t (LG X.K f)
def SGs(ts:List Expr)(f:DGs):Prop:=PGs X ts (LGs X.K f)
end
section
variable {X:Cx}
theorem PE.imp{e:Expr}{t t':TE}(h:PE X e t)(k:∀ σ H Q,t' σ H Q->t σ H Q):PE X e t':=fun pins s σ H Q I q=>h pins s σ H Q I (k σ H Q q)
theorem PT.imp{e:Expr}{t t':TT}(h:PT X e t)(k:∀ σ H Q,t' σ H Q->t σ H Q):PT X e t':=fun pins s σ H Q I q=>h pins s σ H Q I (k σ H Q q)
theorem PW.imp{e:Expr}{t t':TT}(h:PW X e t)(k:∀ σ H Q,t' σ H Q->t σ H Q):PW X e t':=fun wh pins s σ H Q I q=>h wh pins s σ H Q I (k σ H Q q)
theorem PA.imp{es:List Expr}{t t':TA}(h:PA X es t)(k:∀ σ H Q,t' σ H Q->t σ H Q):PA X es t':=fun pos pins s σ H Q I q=>h pos pins s σ H Q I (k σ H Q q)
theorem PS.imp{e:Stmt}{t t':TS}(h:PS X e t)(k:∀ F σ H,t' F σ H->t F σ H):PS X e t':=fun pins s σ H F I q=>h pins s σ H F I (k F σ H q)
theorem PSs.imp{e:List Stmt}{t t':TS}(h:PSs X e t)(k:∀ F σ H,t' F σ H->t F σ H):PSs X e t':=fun pins s σ H F I q=>h pins s σ H F I (k F σ H q)
theorem PG.imp{e:Expr}{t t':TG}(h:PG X e t)(k:∀ v σ H Q,t' v σ H Q->t v σ H Q):PG X e t':=fun pins s σ H v u Q I r q=>h pins s σ H v u Q I r (k v σ H Q q)
theorem PGs.imp{e:List Expr}{t t':TGs}(h:PGs X e t)(k:∀ v σ H Q,t' v σ H Q->t v σ H Q):PGs X e t':=fun pins s σ H v u Q I r q=>h pins s σ H v u Q I r (k v σ H Q q)
end
end DL
namespace DL
open PySem PySem.Spec L2
def b6(i:Nat):DE:=fun δ h Q=>match δ[i]? with | some (some d)=>Q d h | _=>False
def dC(d:D):DE:=fun _ h Q=>Q d h
abbrev P1:=D->Hh->DK->Prop
abbrev P2:=D->D->Hh->DK->Prop
abbrev PN:=List D->Hh->DK->Prop
def dUn(p:P1)(a:DE):DE:=fun δ h Q=>a δ h fun x h1=>p x h1 Q
def dOp(p:P2)(a b:DE):DE:=fun δ h Q=>a δ h fun x h1=>b δ h1 fun y h2=>p x y h2 Q
inductive r1(K:PySem.W.Frag)(p:P1)(x:V)(H:Hp)(Q:VK):Prop
 |mk (π:List Addr) (α:List Addr) (h:Hh) (d:D) (Q':DK):HRel ⟨K,π⟩ α H h->RelD ⟨K,π⟩ α H d x->p d h Q'->(∀ d h' α' H' v,Q' d h'->Ext α H α' H'->HRel ⟨K,π⟩ α' H' h'->RelD ⟨K,π⟩ α' H' d v->Q v H')->r1 K p x H Q
inductive r2(K:PySem.W.Frag)(p:P2)(x y:V)(H:Hp)(Q:VK):Prop
 |mk (π:List Addr) (α:List Addr) (h:Hh) (d e:D) (Q':DK):HRel ⟨K,π⟩ α H h->RelD ⟨K,π⟩ α H d x->RelD ⟨K,π⟩ α H e y->p d e h Q'->(∀ d h' α' H' v,Q' d h'->Ext α H α' H'->HRel ⟨K,π⟩ α' H' h'->RelD ⟨K,π⟩ α' H' d v->Q v H')->r2 K p x y H Q
inductive rN(K:PySem.W.Frag)(p:PN)(xs:List V)(H:Hp)(Q:VK):Prop
 |mk (π:List Addr) (α:List Addr) (h:Hh) (ds:List D) (Q':DK):HRel ⟨K,π⟩ α H h->RelDs ⟨K,π⟩ α H ds xs->p ds h Q'->(∀ d h' α' H' v,Q' d h'->Ext α H α' H'->HRel ⟨K,π⟩ α' H' h'->RelD ⟨K,π⟩ α' H' d v->Q v H')->rN K p xs H Q
section
variable {K:PySem.W.Frag} {σ:L2.St} {H:Hp} {Q:VK}
theorem b3S{p:P1}{fa:DE}(g:LE K (dUn p fa) σ H Q):LE K fa σ H fun x H1=>r1 K p x H1 Q:=by
 obtain ⟨π,α,δ,h,Q',R,S,f,k⟩:=g;exact ⟨π,α,δ,h,_,R,S,f,fun x h1 α1 H1 v1 f1 e1 R1 q1=>⟨π,α1,h1,x,Q',R1,q1,f1,fun d h' α' H' v a b c d'=>k d h' α' H' v a (e1.trans b) c d'⟩⟩
theorem a0b{p:P2}{fa fb:DE}(g:LE K (dOp p fa fb) σ H Q):LE K fa σ H fun x H1=>LE K fb σ H1 fun y H2=>r2 K p x y H2 Q:=by
 obtain ⟨π,α,δ,h,Q',R,S,f,k⟩:=g;refine ⟨π,α,δ,h,_,R,S,f,fun x h1 α1 H1 v1 f1 e1 R1 q1=>?_⟩;refine ⟨π,α1,δ,h1,_,R1,S.mono e1,f1,fun y h2 α2 H2 v2 f2 e2 R2 q2=>?_⟩;exact ⟨π,α2,h2,x,y,Q',R2,q1.mono e2,q2,f2,fun d h' α' H' v a b c d'=>k d h' α' H' v a (e1.trans (e2.trans b)) c d'⟩
end
theorem OpR.imp{X:Cx}{f:Value->Value->Sem Value}{r r':R2}(h:OpR X f r)(k:∀ x y H Q,r' x y H Q->r x y H Q):OpR X f r':=fun pins s σ H x y v u Q I rx ry q=>h pins s σ H x y v u Q I rx ry (k x y H Q q)
theorem UnR.imp{X:Cx}{f:Value->Sem Value}{r r':V->Hp->VK->Prop}(h:UnR X f r)(k:∀ x H Q,r' x H Q->r x H Q):UnR X f r':=fun pins s σ H x v Q I rx q=>h pins s σ H x v Q I rx (k x H Q q)
theorem IxR.imp{X:Cx}{r r':R2}(h:IxR X r)(k:∀ x y H Q,r' x y H Q->r x y H Q):IxR X r':=fun va sl pins s σ H x y v u Q I rx ry q=>h va sl pins s σ H x y v u Q I rx ry (k x y H Q q)
theorem CallR.imp{X:Cx}{f:Value}{r r':List V->Hp->VK->Prop}(h:CallR X f r)(k:∀ x H Q,r' x H Q->r x H Q):CallR X f r':=fun pins s σ H xs us Q I rx q=>h pins s σ H xs us Q I rx (k xs H Q q)
def A4(h:Hh):D->Option (List D)
 |.lst xs=>some xs
 |.scr xs=>some xs
 |.ref i=>match h[i]? with | some (.lst xs)=>some xs | _=>none
 |_=>none
section
variable {K:KP} {α:List Addr} {H:Hp} {h:Hh}
theorem P3(R:HRel K α H h):∀ {d:D} {v:V} {xs:List D},RelD K α H d v->A4 h d=some xs->∃ p us,v = .ref p/\SqL K.K H p us/\RelDs K α H xs us
 |_,_,_,.lst t r,e=>by cases e;exact ⟨_,_,rfl,t.sq,r⟩
 |_,_,_,.scr t r,e=>by cases e;exact ⟨_,_,rfl,t.sq,r⟩
 |_,_,xs,.ref (i:=i) hp,e=>by
  have e:(match h[i]? with | some (.lst xs)=>some xs | _=>none)=some xs:=e
  cases q:h[i]? with
  |none=>rw [q] at e;cases e
  |some o =>
   rw [q] at e
   cases o with
   |lst ys =>
    cases e;obtain ⟨p,us,e1,e2,e3⟩:=R.lst q;rw [hp] at e1;cases e1;exact ⟨_,us,rfl,SqL.of e2,e3⟩
   |_=>cases e
 |_,_,_,.non,e=>nomatch e
 |_,_,_,.bl _,e=>nomatch e
 |_,_,_,.int _,e=>nomatch e
 |_,_,_,.str _,e=>nomatch e
 |_,_,_,.tup _ _,e=>nomatch e
theorem b5E{d:List D}{v:V}(r:RelD K α H (.tup d) v):∃ p us,v = .ref p/\SqT K.K H p us/\RelDs K α H d us:=by
 cases r with
 |tup t r=>exact ⟨_,_,rfl,t.sq,r⟩
end
section
variable {X:Cx} {a b c e:Expr} {fa fb fc:DE} {pos:Pos}
theorem sv(i:Nat){x:Str}{pos:Pos}(hN:X.N[i]?=some x:=by rfl)(hv:Vis X.env.scope x:=by trivial)(hd:(x == ("__debug__":Str))=false:=by decide)
  (hcd:(x == ("__classdict__":Str))=false:=by decide):SE X (.Name x pos) (b6 i):=PE.imp (b8T hN hv hd hcd) fun σ H Q ⟨π,α,δ,h,Q',R,S,f,k⟩=>by
 unfold b6 at f
 split at f
 ·rename_i d e;obtain ⟨v,h1,h2⟩:=S.get i d e;exact ⟨v,h1,k d h α H v f (Ext.refl ..) R h2⟩
 ·exact f.elim
theorem a0c{v:V}{d:D}(r:∀ π α H,RelD ⟨X.K,π⟩ α H d v)(h:PE X e (tC v)):SE X e (dC d):=PE.imp h fun σ H Q ⟨π,α,δ,h,Q',R,S,f,k⟩=>k d h α H v f (Ext.refl ..) R (r π α H)
theorem b7{i j pos}:SE X (.Constant (.int i) j pos) (dC (.int i)):=a0c (fun _ _ _=>.int i) b7h
theorem a3d{i j pos}:SE X (.Constant (.bool i) j pos) (dC (.bl i)):=a0c (fun _ _ _=>.bl i) c0u
theorem n8{j pos}:SE X (.Constant .none j pos) (dC .non):=a0c (fun _ _ _=>.non) b7Y
theorem k9{i j pos}:SE X (.Constant (.str i) j pos) (dC (.str i)):=a0c (fun _ _ _=>.str i) b6M
theorem d8{op:Operator}{p:P2}(ho:OpR X (binaryOp op) (r2 X.K p))(ha:SE X a fa)(hb:SE X b fb):SE X (.BinOp a op b pos) (dOp p fa fb):=PE.imp (c0H ho ha hb) fun _ _ _ g=>a0b g
theorem b9y{op:UnaryOp}{p:P1}(ho:UnR X (unaryOp op) (r1 X.K p))(ha:SE X a fa):SE X (.UnaryOp op a pos) (dUn p fa):=PE.imp (b9r ho ha) fun _ _ _ g=>b3S g
theorem c5{p:P2}(ho:IxR X (r2 X.K p))(ha:SE X a fa)(hb:SE X b fb)(hs:a4C b:=by exact fun _ _=>rfl):SE X (.Subscript a b pos) (dOp p fa fb):=PE.imp (b9o ho ha hb hs) fun _ _ _ g=>a0b g
theorem D6{op:CmpOp}{p:P2}(ho:OpR X (compareOp op) (r2 X.K p))(ha:SE X a fa)(hb:SE X b fb)(hm:behindInMarks op b=false:=by exact a8G _):SE X (.Compare a [op] [b] pos) (dOp p fa fb):=PE.imp (b3v ho ha hb hm) fun _ _ _ g=>a0b g
def n5(f:DE):DT:=fun δ h Q=>f δ h fun d h'=>match d with | .bl b=>Q b h' | _=>False
theorem a3v{K:PySem.W.Frag}{f:DE}{σ:L2.St}{H:Hp}{Q:Bool->Hp->Prop}(g:LT K (n5 f) σ H Q):LE K f σ H fun x H'=>∃ k,x = .bl k/\Q k H':=by
 obtain ⟨π,α,δ,h,Q',R,S,f,k⟩:=g;refine ⟨π,α,δ,h,_,R,S,f,fun d h1 α1 H1 v1 f1 e1 R1 q1=>?_⟩
 cases q1 with
 |bl b=>exact ⟨b,rfl,k b h1 α1 H1 f1 e1 R1⟩
 |_=>exact f1.elim
theorem i9{op:CmpOp}{p:P2}(ho:OpR X (compareOp op) (r2 X.K p))(ha:SE X a fa)(hb:SE X b fb)(hm:behindInMarks op b=false:=by exact a8G _):ST X (.Compare a [op] [b] pos) (n5 (dOp p fa fb)):=PT.imp (b4x ho ha hb hm) fun _ _ _ g=>by
 obtain ⟨π,α,δ,h,Q',R,S,f,k⟩:=a3v g;exact a0b (Q:=fun x H'=>∃ k,x = .bl k/\_) ⟨π,α,δ,h,Q',R,S,f,k⟩
def V8(p q:P2)(a b c:DE):DE:=fun δ h Q=>a δ h fun x h1=>b δ h1 fun y h2=>p x y h2 fun z h3=>match z with
 |.bl k=>if k=true then c δ h3 fun w h4=>q y w h4 Q else Q (.bl false) h3
 |_=>False
theorem a4r{K:PySem.W.Frag}{p q:P2}{σ:L2.St}{H:Hp}{Q:VK}(g:LE K (V8 p q fa fb fc) σ H Q):a7p (r2 K p) (r2 K q) (LE K fa) (LE K fb) (LE K fc) σ H Q:=by
 obtain ⟨π,α,δ,h,Q',R,S,f,k⟩:=g;refine ⟨π,α,δ,h,_,R,S,f,fun x h1 α1 H1 v1 f1 e1 R1 q1=>?_⟩;refine ⟨π,α1,δ,h1,_,R1,S.mono e1,f1,fun y h2 α2 H2 v2 f2 e2 R2 q2=>?_⟩;refine ⟨π,α2,h2,x,y,_,R2,q1.mono e2,q2,f2,fun z h3 α3 H3 v3 f3 e3 R3 q3=>?_⟩
 cases q3 with
 |bl b =>
  refine ⟨b,rfl,?_⟩
  cases b with
  |false=>exact a0w (k _ _ _ _ _ (by simpa using f3) (e1.trans (e2.trans e3)) R3 (.bl false))
  |true =>
   have f3:fc δ h3 fun w h4=>q y w h4 Q':=by simpa using f3
   refine a0X ⟨π,α3,δ,h3,_,R3,S.mono (e1.trans (e2.trans e3)),f3,fun w h4 α4 H4 v4 f4 e4 R4 q4=>?_⟩;exact ⟨π,α4,h4,y,w,Q',R4,q2.mono (e3.trans e4),q4,f4,fun d h' α' H' v a b c d'=>k d h' α' H' v a (e1.trans (e2.trans (e3.trans (e4.trans b)))) c d'⟩
 |_=>exact f3.elim
theorem R9{op op':CmpOp}{p q:P2}(ho:OpR X (compareOp op) (r2 X.K p))(ho':OpR X (compareOp op') (r2 X.K q))(ha:SE X a fa)(hb:SE X b fb)(hc:SE X c fc)
  (hm:lastMarks [op,op'] [b,c]=false:=by with_unfolding_all rfl):ST X (.Compare a [op,op'] [b,c] pos) (n5 (V8 p q fa fb fc)):=PT.imp (a8M ho ho' ha hb hc hm) fun _ _ _ g=>by
 obtain ⟨π,α,δ,h,Q',R,S,f,k⟩:=a3v g;exact a4r (Q:=fun x H'=>∃ k,x = .bl k/\_) ⟨π,α,δ,h,Q',R,S,f,k⟩
def trD(h:Hh):D->Option Bool
 |.non=>some false
 |.bl b=>some b
 |.int i=>some (i != 0)
 |.str x=>if x.length <= 16777216 then some ((x.length:Int) != 0) else none
 |.tup xs=>some (!xs.isEmpty)
 |.lst xs=>some (!xs.isEmpty)
 |.scr xs=>some (!xs.isEmpty)
 |.ref i=>match h[i]? with | some (.lst xs)=>some (!xs.isEmpty) | _=>none
 |.exc _ _=>none
def dTr(f:DE):DT:=fun δ h Q=>f δ h fun d h'=>match trD h' d with | some b=>Q b h' | none=>False
theorem G6{K:KP}{α:List Addr}{H:Hp}{ds:List D}{us:List V}(r:RelDs K α H ds us):ds.isEmpty=us.isEmpty:=by cases r <;> rfl
theorem c0S{K:KP}{α:List Addr}{H:Hp}{h:Hh}(R:HRel K α H h){d:D}{v:V}{k:Bool}(r:RelD K α H d v)(e:trD h d=some k):b8r K.K v H k:=by
 cases r with
 |non=>cases e;exact rfl
 |bl b=>cases e;exact rfl
 |int i=>cases e;exact rfl
 |str x =>
  have e:(if x.length <= 16777216 then some ((x.length:Int) != 0) else none)=some k:=e
  split at e
  ·rename_i hl;cases e;exact ⟨by rw [sizeLine_eq];exact hl,rfl⟩
  ·cases e
 |tup t r=>cases e;exact .inr (.inl ⟨_,t.sq,by rw [G6 r]⟩)
 |lst t r=>cases e;exact .inl ⟨_,t.sq,by rw [G6 r]⟩
 |scr t r=>cases e;exact .inl ⟨_,t.sq,by rw [G6 r]⟩
 |exc _ _ _=>cases e
 |@ref i a hp =>
  have e:(match h[i]? with | some (.lst xs)=>some (!xs.isEmpty) | _=>none)=some k:=e
  cases q:h[i]? with
  |none=>rw [q] at e;cases e
  |some o =>
   rw [q] at e
   cases o with
   |lst ys =>
    cases e;obtain ⟨p,us,e1,e2,e3⟩:=R.lst q;rw [hp] at e1;cases e1;exact .inl ⟨us,SqL.of e2,by rw [G6 e3]⟩
   |_=>cases e
theorem A8(ha:SE X a fa)(he:∀ whole,isTrue a X.env whole=(do let v <- whole;standAt a.pos;holding [v] (truthy v)):=by intro _;rfl):ST X a (dTr fa):=PT.imp (a7s ha he) fun σ H Q zz0=>by
 obtain ⟨π,α,δ,h,Q',R,S,f,k⟩:=zz0;refine ⟨π,α,δ,h,_,R,S,f,fun d h1 α1 H1 v1 f1 e1 R1 q1=>?_⟩
 cases q:trD h1 d with
 |none=>rw [q] at f1;exact f1.elim
 |some b=>rw [q] at f1;exact ⟨b,c0S R1 q1 q,k b h1 α1 H1 f1 e1 R1⟩
def a3K(t u:DT):DT:=fun δ h Q=>t δ h fun c h1=>if c=true then u δ h1 Q else Q false h1
def dOr(t u:DT):DT:=fun δ h Q=>t δ h fun c h1=>if c=true then Q true h1 else u δ h1 Q
def b2z(t:DT):DT:=fun δ h Q=>t δ h fun c h1=>Q (!c) h1
variable {ga gb:DT} {rest:List Expr}
theorem P4(ha:ST X a ga):SW X (.BoolOp .And [a] pos) ga:=b4g ha
theorem Q5(ha:ST X a ga):SW X (.BoolOp .Or [a] pos) ga:=b7a ha
theorem V7(ha:ST X a ga)(hb:SW X (.BoolOp .And (b :: rest) pos) gb):SW X (.BoolOp .And (a :: b :: rest) pos) (a3K ga gb):=PW.imp (b8v ha hb) fun σ H Q zz0=>by
 obtain ⟨π,α,δ,h,Q',R,S,f,k⟩:=zz0;refine ⟨π,α,δ,h,_,R,S,f,fun c h1 α1 H1 f1 e1 R1=>?_⟩
 cases c with
 |true=>exact a0X ⟨π,α1,δ,h1,Q',R1,S.mono e1,by simpa using f1,fun b h' α' H' a e c=>k b h' α' H' a (e1.trans e) c⟩
 |false=>exact a0w (k false h1 α1 H1 (by simpa using f1) e1 R1)
theorem T4(ha:ST X a ga)(hb:SW X (.BoolOp .Or (b :: rest) pos) gb):SW X (.BoolOp .Or (a :: b :: rest) pos) (dOr ga gb):=PW.imp (c0R ha hb) fun σ H Q zz0=>by
 obtain ⟨π,α,δ,h,Q',R,S,f,k⟩:=zz0;refine ⟨π,α,δ,h,_,R,S,f,fun c h1 α1 H1 f1 e1 R1=>?_⟩
 cases c with
 |true=>exact a0X (k true h1 α1 H1 (by simpa using f1) e1 R1)
 |false=>exact a0w ⟨π,α1,δ,h1,Q',R1,S.mono e1,by simpa using f1,fun b h' α' H' a e c=>k b h' α' H' a (e1.trans e) c⟩
theorem W7(h:SW X e ga):ST X e ga:=PW.pt h
theorem a3P(ha:ST X a ga):ST X (.UnaryOp .Not a pos) (b2z ga):=PT.imp (b6v ha) fun σ H Q ⟨π,α,δ,h,Q',R,S,f,k⟩=>⟨π,α,δ,h,_,R,S,f,fun c h1 α1 H1 f1 e1 R1=>k (!c) h1 α1 H1 f1 e1 R1⟩
def a2Y(a b:DE):DE:=fun δ h Q=>a δ h fun x h1=>match x with | .bl k=>if k=true then b δ h1 Q else Q (.bl false) h1 | _=>False
def c3s(a b:DE):DE:=fun δ h Q=>a δ h fun x h1=>match x with | .bl k=>if k=true then Q (.bl true) h1 else b δ h1 Q | _=>False
def c2U(a:DE):DE:=fun δ h Q=>a δ h fun x h1=>match x with | .bl b=>Q (.bl (!b)) h1 | _=>False
theorem a1M{op}(h:SE X a fa):SE X (.BoolOp op [a] pos) fa:=b5s h
theorem a2n(ha:SE X a fa)(hb:SE X (.BoolOp .And (b :: rest) pos) fb):SE X (.BoolOp .And (a :: b :: rest) pos) (a2Y fa fb):=PE.imp (b8S ha hb) fun σ H Q zz0=>by
 obtain ⟨π,α,δ,h,Q',R,S,f,k⟩:=zz0;refine ⟨π,α,δ,h,_,R,S,f,fun x h1 α1 H1 v1 f1 e1 R1 q1=>?_⟩
 cases q1 with
 |bl c =>
  refine ⟨c,rfl,?_⟩
  cases c with
  |true=>exact a0X ⟨π,α1,δ,h1,Q',R1,S.mono e1,by simpa using f1,fun d h' α' H' v a e c d'=>k d h' α' H' v a (e1.trans e) c d'⟩
  |false=>exact a0w (k _ h1 α1 H1 _ (by simpa using f1) e1 R1 (.bl false))
 |_=>exact f1.elim
def dIf(t:DT)(a b:DE):DE:=fun δ h Q=>t δ h fun c h1=>if c=true then a δ h1 Q else b δ h1 Q
theorem a0Q(hc:ST X c ga)(ha:SE X a fa)(hb:SE X b fb):SE X (.IfExp c a b pos) (dIf ga fa fb):=PE.imp (a8O hc ha hb) fun σ H Q zz0=>by
 obtain ⟨π,α,δ,h,Q',R,S,f,k⟩:=zz0;refine ⟨π,α,δ,h,_,R,S,f,fun c h1 α1 H1 f1 e1 R1=>?_⟩
 cases c with
 |true=>exact a0X ⟨π,α1,δ,h1,Q',R1,S.mono e1,by simpa using f1,fun d h' α' H' v a e c d'=>k d h' α' H' v a (e1.trans e) c d'⟩
 |false=>exact a0w ⟨π,α1,δ,h1,Q',R1,S.mono e1,by simpa using f1,fun d h' α' H' v a e c d'=>k d h' α' H' v a (e1.trans e) c d'⟩
def d7:DA:=fun _ h Q=>Q [] h
def b5(a:DE)(r:DA):DA:=fun δ h Q=>a δ h fun x h1=>r δ h1 fun xs h2=>Q (x :: xs) h2
variable {es:List Expr} {n:Nat} {fs:DA}
theorem b8:SA X [] 0 d7:=PA.imp b6G fun σ H Q ⟨π,α,δ,h,Q',R,S,f,k⟩=>k [] h α H [] f (Ext.refl ..) R .nil rfl
theorem b4(ha:SE X e fa)(hr:SA X es n fs)(hs:starEach (e :: es) X.env=(false,eval e X.env) :: starEach es X.env:=by rfl):SA X (e :: es) (n + 1) (b5 fa fs):=PA.imp (b4t ha hr hs) fun σ H Q zz0=>by
 obtain ⟨π,α,δ,h,Q',R,S,f,k⟩:=zz0;refine ⟨π,α,δ,h,_,R,S,f,fun x h1 α1 H1 v1 f1 e1 R1 q1=>?_⟩;refine ⟨π,α1,δ,h1,_,R1,S.mono e1,f1,fun ds h2 α2 H2 vs f2 e2 R2 q2 l2=>?_⟩;exact k (x :: ds) h2 α2 H2 (v1 :: vs) f2 (e1.trans e2) R2 (.cons (q1.mono e2) q2) (by rw [List.length_cons,l2])
def u0(f:DA):DE:=fun δ h Q=>f δ h fun ds h1=>Q (.tup ds) h1
theorem j4{x1}(hf:SA X es n fs)(hn:n <= sizeLine:=by decide):SE X (.Tuple es x1 pos) (u0 fs):=PE.imp (b8A hf) fun σ H Q zz0=>by
 obtain ⟨π,α,δ,h,Q',R,S,f,k⟩:=zz0;refine ⟨π,α,δ,h,_,R,S,f,fun ds h1 α1 H1 vs f1 e1 R1 q1 l1=>⟨by rw [<- q1.length,l1];exact hn,fun p hp=>?_⟩⟩;have e2:Ext α1 H1 α1 (upd H1 p (.tup vs)):=Ext.new hp;exact k (.tup ds) h1 α1 _ _ f1 (e1.trans e2) (R1.new hp) (.tup ⟨R1.out hp,R1.outP hp,j7⟩ (q1.mono e2))
abbrev DN:=Sl->Hh->(List D->Hh->Prop)->Prop
inductive LN(K:PySem.W.Frag)(f:DN)(σ:St)(H:Hp)(Q:VK):Prop
 |mk (π:List Addr) (α:List Addr) (δ:Sl) (h:Hh) (Q':List D->Hh->Prop):HRel ⟨K,π⟩ α H h->RelS ⟨K,π⟩ α H δ σ->f δ h Q'->(∀ ds h' α' H' us p,Q' ds h'->Ext α H α' H'->HRel ⟨K,p :: π⟩ α' H' h'->RelDs ⟨K,p :: π⟩ α' H' ds us->H' p=some (.lst us)->H p=none->p ∉ π->Q (.ref p) H')->LN K f σ H Q
theorem LN.last{K:PySem.W.Frag}{π α α':List Addr}{H H':Hp}{h h':Hh}{Q:VK}{Q':List D->Hh->Prop}(k:∀ ds h' α' H' us p,Q' ds h'->Ext α H α' H'->HRel ⟨K,p :: π⟩ α' H' h'->RelDs ⟨K,p :: π⟩ α' H' ds us->H' p=some (.lst us)->H p=none->p ∉ π->Q (.ref p) H')
  {ds:List D} {us:List V} {p:Addr} (f:Q' ds h') (e:Ext α H α' H') (R:HRel ⟨K,π⟩ α' H' h') (r:RelDs ⟨K,π⟩ α' H' ds us) (hp:H' p=none):Q (.ref p) (upd H' p (.lst us)):=by
 have e2:Ext α' H' α' (upd H' p (.lst us)):=Ext.new hp;refine k ds h' α' _ us p f (e.trans e2) (R.under hp) ((r.more fun q hq=>?_).mono e2) j7 (e.dom p hp) (R.outP hp)
 rcases List.mem_cons.mp hq with rfl | z
 ·exact .inr hp
 ·exact .inl z
def SN(X:Cx)(e:Expr)(f:DN):Prop:=PE X e (LN X.K f)
def dV(f:DN):DE:=fun δ h Q=>f δ h fun ds h'=>Q (.lst ds) h'
def dTk(f:DN):DE:=fun δ h Q=>f δ h fun ds h'=>Q (.ref h'.length) (h' ++ [.lst ds])
variable {fn:DN}
theorem D4(hf:SN X e fn):SE X e (dV fn):=PE.imp hf fun σ H Q zz0=>by
 obtain ⟨π,α,δ,h,Q',R,S,f,k⟩:=zz0;refine ⟨π,α,δ,h,_,R,S,f,fun ds h1 α1 H1 us p f1 e1 R1 q1 hus hp np=>?_⟩;exact k (.lst ds) h1 α1 _ _ f1 e1 R1.less (.lst ⟨(R1.dis p List.mem_cons_self).1,np,hus⟩ (q1.more fun q hq=>.inl (List.mem_cons_of_mem _ hq)))
theorem Z2(hf:SN X e fn):SE X e (dTk fn):=PE.imp hf fun σ H Q zz0=>by
 obtain ⟨π,α,δ,h,Q',R,S,f,k⟩:=zz0;refine ⟨π,α,δ,h,_,R,S,f,fun ds h1 α1 H1 us p f1 e1 R1 q1 hus hp np=>?_⟩;refine k (.ref h1.length) (h1 ++ [.lst ds]) (α1 ++ [p]) _ _ f1 (e1.adopt hp) (R1.adopt np (.lst hus q1.adopt)) (.ref ?_);rw [<- R1.len];simp
theorem r9(hf:SA X es n fs)(hn:n <= sizeLine:=by decide):SN X (.List es pos) fs:=PE.imp (b5K hf) fun σ H Q zz0=>by
 obtain ⟨π,α,δ,h,Q',R,S,f,k⟩:=zz0;refine ⟨π,α,δ,h,_,R,S,f,fun ds h1 α1 H1 vs f1 e1 R1 q1 l1=>⟨by rw [<- q1.length,l1];exact hn,fun p hp=>?_⟩⟩;exact LN.last (h:=h) k f1 e1 R1 q1 hp
end
end DL
namespace DL
open PySem PySem.Spec L2
section
variable {X:Cx}
def pI(C:Int->Int->Prop)(g:Int->Int->Int):P2:=fun x y h Q=>match x,y with | .int i,.int j=>C i j/\Q (.int (g i j)) h | _,_=>False
def pI0(g:Int->Int->Int):P2:=fun x y h Q=>match x,y with | .int i,.int j=>Q (.int (g i j)) h | _,_=>False
def pB0(g:Int->Int->Bool):P2:=fun x y h Q=>match x,y with | .int i,.int j=>Q (.bl (g i j)) h | _,_=>False
theorem a1E{f:Value->Value->Sem Value}{C:Int->Int->Prop}{g:Int->Int->Int}(h:OpR X f (rI C fun i j=>.int (g i j))):OpR X f (r2 X.K (pI C g)):=OpR.imp h fun x y H Q zz0=>by
 obtain ⟨π,α,h,d,e,Q',R,r1,r2,f,k⟩:=zz0
 cases r1 with
 |int i =>
  cases r2 with
  |int j=>exact ⟨i,j,rfl,rfl,f.1,k _ h α H _ f.2 (Ext.refl ..) R (.int _)⟩
  |_=>exact f.elim
 |_=>exact f.elim
theorem a2s{f:Value->Value->Sem Value}{g:Int->Int->Int}(h:OpR X f (rI0 fun i j=>.int (g i j))):OpR X f (r2 X.K (pI0 g)):=OpR.imp h fun x y H Q zz0=>by
 obtain ⟨π,α,h,d,e,Q',R,r1,r2,f,k⟩:=zz0
 cases r1 with
 |int i =>
  cases r2 with
  |int j=>exact ⟨i,j,rfl,rfl,k _ h α H _ f (Ext.refl ..) R (.int _)⟩
  |_=>exact f.elim
 |_=>exact f.elim
theorem a3Q{f:Value->Value->Sem Value}{g:Int->Int->Bool}(h:OpR X f (rI0 fun i j=>.bl (g i j))):OpR X f (r2 X.K (pB0 g)):=OpR.imp h fun x y H Q zz0=>by
 obtain ⟨π,α,h,d,e,Q',R,r1,r2,f,k⟩:=zz0
 cases r1 with
 |int i =>
  cases r2 with
  |int j=>exact ⟨i,j,rfl,rfl,k _ h α H _ f (Ext.refl ..) R (.bl _)⟩
  |_=>exact f.elim
 |_=>exact f.elim
abbrev a0Y:P2:=pI0 fun i j=>i - j
abbrev F7:P2:=pI (fun _ j=>0 < j/\j < 2 ^ 100) fun i j=>i / j
abbrev z4:P2:=pI (fun _ j=>0 < j) fun i j=>i % j
abbrev a6m:P2:=pI a6n fun i j=>i ^ j.toNat
abbrev a6E:P2:=pI a6n fun i j=>i * 2 ^ j.toNat
abbrev b7P:P2:=pI (fun _ j=>0 <= j) fun i j=>i / 2 ^ j.toNat
abbrev a8q:P2:=pI0 fun i j=>Builtin.bitAnd i j
abbrev c0i:P2:=pI0 fun i j=>Builtin.bitOr i j
abbrev Y8:P2:=pB0 fun i j=>decide (i < j)
abbrev pLe:P2:=pB0 fun i j=>decide (i <= j)
abbrev pGt:P2:=pB0 fun i j=>decide (j < i)
theorem L6:OpR X (binaryOp .Sub) (r2 X.K a0Y):=a2s b6w
theorem a8d:OpR X (binaryOp .FloorDiv) (rI (fun _ j=>0 < j/\j < 2 ^ 100) fun i j=>.int (i / j)):=opI fun i j _ _ _ _ _ hc q=>by
 have e:i.fdiv j=i / j:=Int.fdiv_eq_ediv_of_nonneg i (by omega);refine PyProof.Rows.floordiv_int (by omega) (by rw [e];exact q) (.inl (PyProof.noPylong_of_log2 ?_));have h1:j.natAbs ≠ 0:=by omega
 rw [Nat.log2_lt h1]
 have h2:j.natAbs < 2 ^ 100:=by
  have:=hc.2
  omega
 exact Nat.lt_of_lt_of_le h2 (Nat.pow_le_pow_right (by decide) (by decide))
theorem u3:OpR X (binaryOp .FloorDiv) (r2 X.K F7):=a1E a8d
theorem m4:OpR X (binaryOp .Mod) (r2 X.K z4):=a1E b6c
theorem a0P:OpR X (binaryOp .Pow) (r2 X.K a6m):=a1E b6E
theorem a0d:OpR X (binaryOp .LShift) (r2 X.K a6E):=a1E b5v
theorem a8N:OpR X (binaryOp .RShift) (r2 X.K b7P):=a1E b7q
theorem a5x:OpR X (binaryOp .BitAnd) (r2 X.K a8q):=a2s b7x
theorem b6V:OpR X (binaryOp .BitOr) (r2 X.K c0i):=a2s b9G
theorem a4L:OpR X (compareOp .LtE) (r2 X.K pLe):=a3Q b9m
theorem a0G:OpR X (compareOp .Gt) (r2 X.K pGt):=a3Q c0x
theorem F0:OpR X (compareOp .Lt) (r2 X.K Y8):=a3Q b9O
theorem b3n:OpR X (inplaceOp .Add) (r2 X.K (pI0 fun i j=>i + j)):=a2s b1S
def b9T:P2:=fun x y h Q=>match x,y with
 |.int i,.int j=>Q (.int (i + j)) h
 |.str a,.str b=>a.length + b.length <= 16777216/\Q (.str (a ++ b)) h
 |.tup a,.tup b=>a ≠ []/\a.length + b.length <= 16777216/\Q (.tup (a ++ b)) h
 |_,_=>False
theorem b5H:OpR X (binaryOp .Add) (r2 X.K b9T):=OpR.imp (op_add.or (op_add_str.or b2u)) fun x y H Q zz0=>by
 obtain ⟨π,α,h,d,e,Q',R,r1,r2,f,k⟩:=zz0
 cases r1 with
 |int i =>
  cases r2 with
  |int j=>exact .inl ⟨i,j,rfl,rfl,k _ h α H _ f (Ext.refl ..) R (.int _)⟩
  |_=>exact f.elim
 |str i =>
  cases r2 with
  |str j=>exact .inr (.inl ⟨i,j,rfl,rfl,by rw [sizeLine_eq];exact f.1,k _ h α H _ f.2 (Ext.refl ..) R (.str _)⟩)
  |_=>exact f.elim
 |@tup a us ds t r =>
  cases r2 with
  |@tup a' us' ds' t' r' =>
   obtain ⟨f1,f2,f3⟩:=f;have l1:=r.length;have l2:=r'.length;refine .inr (.inr ⟨a,a',us,us',rfl,rfl,t.sq,t'.sq,?_,by rw [sizeLine_eq,<- l1,<- l2];exact f2,fun z=>?_,fun z p hp=>?_⟩)
   ·intro z;subst z
    cases r;exact f1 rfl
   ·subst z
    cases r'
    rw [List.append_nil] at f3;exact k _ h α H _ f3 (Ext.refl ..) R (.tup t r)
   ·have e2:Ext α H α (upd H p (.tup (us ++ us'))):=Ext.new hp;exact k _ h α _ _ f3 e2 (R.new hp) (.tup ⟨R.out hp,R.outP hp,j7⟩ ((r.append r').mono e2))
  |_=>exact f.elim
 |_=>exact f.elim
def b9A:P1:=fun x h Q=>match x with | .int i=>Q (.int (-i)) h | _=>False
theorem b8I:UnR X (unaryOp .USub) (r1 X.K b9A):=UnR.imp b7S fun x H Q zz0=>by
 obtain ⟨π,α,h,d,Q',R,r1,f,k⟩:=zz0
 cases r1 with
 |int i=>exact ⟨i,rfl,k _ h α H _ f (Ext.refl ..) R (.int _)⟩
 |_=>exact f.elim
def L7:D->Bool | .non=>true | _=>false
def pIs(neg:Bool):P2:=fun x y h Q=>match y with | .non=>Q (.bl (if neg then !L7 x else L7 x)) h | _=>False
theorem a1t{K:KP}{α:List Addr}{H:Hp}{d:D}{v:V}(r:RelD K α H d v):decide (v = .non)=L7 d:=by cases r <;> rfl
theorem O1:OpR X (compareOp .Is) (r2 X.K (pIs false)):=OpR.imp b6J fun x y H Q zz0=>by
 obtain ⟨π,α,h,d,e,Q',R,r1,r2,f,k⟩:=zz0
 cases r2 with
 |non =>
  refine ⟨rfl,k _ h α H _ f (Ext.refl ..) R ?_⟩;rw [a1t r1];exact .bl _
 |_=>exact f.elim
theorem a2D:OpR X (compareOp .IsNot) (r2 X.K (pIs true)):=OpR.imp b2P fun x y H Q zz0=>by
 obtain ⟨π,α,h,d,e,Q',R,r1,r2,f,k⟩:=zz0
 cases r2 with
 |non =>
  refine ⟨rfl,k _ h α H _ f (Ext.refl ..) R ?_⟩;rw [a1t r1];exact .bl _
 |_=>exact f.elim
theorem Z5{K:KP}{α:List Addr}{H:Hp}{ds:List D}{us:List V}{i:Int}{d:D}(r:RelDs K α H ds us)(e:atI ds i=some d):∃ u,atI us i=some u/\RelD K α H d u:=by
 unfold atI at e ⊢;rw [<- r.length]
 cases q:ixN ds.length i with
 |none=>rw [q] at e;cases e
 |some j =>
  rw [q] at e;exact r.get e
def G3(h:Hh):D->Option (List D)
 |.lst xs=>some xs
 |.scr xs=>some xs
 |.tup xs=>some xs
 |.ref i=>match h[i]? with | some (.lst xs)=>some xs | _=>none
 |_=>none
theorem a0D{K:KP}{α:List Addr}{H:Hp}{h:Hh}(R:HRel K α H h){d:D}{v:V}{xs:List D}(r:RelD K α H d v)(e:G3 h d=some xs):∃ p us,v = .ref p/\(SqL K.K H p us\/SqT K.K H p us)/\RelDs K α H xs us:=by
 by_cases z:∃ ys,d = .tup ys
 ·obtain ⟨ys,rfl⟩:=z;cases e;obtain ⟨p,us,a,b,c⟩:=b5E r;exact ⟨p,us,a,.inr b,c⟩
 ·have e':A4 h d=some xs:=by
   cases d with
   |tup ys=>exact absurd ⟨ys,rfl⟩ z
   |lst ys=>exact e
   |scr ys=>exact e
   |ref i=>exact e
   |_=>cases e
  obtain ⟨p,us,a,b,c⟩:=P3 R r e';exact ⟨p,us,a,.inl b,c⟩
def a7V(x:Str)(i:Int):Option D:=if x.length <= 16777216 then (atI x.cps.toList i).map fun c=>.str ⟨#[c]⟩ else none
def ixD(h:Hh)(x y:D):Option D:=match y with
 |.int i=>match x with
  |.tup xs=>atI xs i
  |.lst xs=>atI xs i
  |.scr xs=>atI xs i
  |.ref j=>match h[j]? with | some (.lst xs)=>atI xs i | _=>none
  |.str s=>a7V s i
  |_=>none
 |_=>none
def pIx:P2:=fun x y h Q=>match ixD h x y with | some d=>Q d h | none=>False
theorem c4:IxR X (r2 X.K pIx):=IxR.imp b8B fun x y H Q zz0=>by
 obtain ⟨π,α,h,d,e,Q',R,r1,r2,f,k⟩:=zz0;unfold pIx at f
 cases q:ixD h d e with
 |none=>rw [q] at f;exact f.elim
 |some z =>
  rw [q] at f
  cases r2 with
  |int i =>
   cases r1 with
   |@tup a us ds t r =>
    obtain ⟨u,e1,e2⟩:=Z5 r q;exact .inr (.inl ⟨_,us,i,u,rfl,rfl,t.sq,e1,k _ h α H _ f (Ext.refl ..) R e2⟩)
   |@lst a us ds t r =>
    obtain ⟨u,e1,e2⟩:=Z5 r q;exact .inl ⟨_,us,i,u,rfl,rfl,t.sq,e1,k _ h α H _ f (Ext.refl ..) R e2⟩
   |@scr a us ds t r =>
    obtain ⟨u,e1,e2⟩:=Z5 r q;exact .inl ⟨_,us,i,u,rfl,rfl,t.sq,e1,k _ h α H _ f (Ext.refl ..) R e2⟩
   |@ref j a hp =>
    have q:(match h[j]? with | some (.lst xs)=>atI xs i | _=>none)=some z:=q
    cases w:h[j]? with
    |none=>rw [w] at q;cases q
    |some o =>
     rw [w] at q
     cases o with
     |lst ys =>
      obtain ⟨p,us,e1,e2,e3⟩:=R.lst w;rw [hp] at e1;cases e1;obtain ⟨u,e4,e5⟩:=Z5 e3 q;exact .inl ⟨_,us,i,u,rfl,rfl,SqL.of e2,e4,k _ h α H _ f (Ext.refl ..) R e5⟩
     |_=>cases q
   |str s =>
    have q:a7V s i=some z:=q;unfold a7V at q
    split at q
    ·rename_i hl
     cases w:atI s.cps.toList i with
     |none=>rw [w] at q;cases q
     |some c =>
      rw [w] at q;cases q;exact .inr (.inr ⟨s,i,c,rfl,rfl,by rw [sizeLine_eq];exact hl,w,k _ h α H _ f (Ext.refl ..) R (.str _)⟩)
    ·cases q
   |_=>cases q
  |_=>cases q
end
def a0I(xs:List D)(lo hi:Option Int):List D:=(xs.drop (HT.sIx xs.length 0 lo)).take (HT.sIx xs.length xs.length hi - HT.sIx xs.length 0 lo)
theorem a2a{K:KP}{α:List Addr}{H:Hp}{ds:List D}{us:List V}(r:RelDs K α H ds us)(lo hi:Option Int):RelDs K α H (a0I ds lo hi) (S4 us lo hi):=by
 unfold a0I S4;rw [r.length];exact (r.drop _).take _
abbrev DO:=Sl->Hh->(Option Int->Hh->Prop)->Prop
def T2:DO:=fun _ h Q=>Q none h
def a0A(f:DE):DO:=fun δ h Q=>f δ h fun d h1=>match d with | .int i=>Q (some i) h1 | _=>False
inductive LO(K:PySem.W.Frag)(f:DO)(σ:St)(H:Hp)(Q:Option Int->Hp->Prop):Prop
 |mk (π:List Addr) (α:List Addr) (δ:Sl) (h:Hh) (Q':Option Int->Hh->Prop):HRel ⟨K,π⟩ α H h->RelS ⟨K,π⟩ α H δ σ->f δ h Q'->(∀ i h' α' H',Q' i h'->Ext α H α' H'->HRel ⟨K,π⟩ α' H' h'->Q i H')->LO K f σ H Q
def SO(X:Cx)(e:Option Expr)(f:DO):Prop:=PO X e (LO X.K f)
section
variable {X:Cx} {e:Expr} {fe:DE} {lo hi:Option Expr} {fl fh:DO} {pos p2:Pos}
theorem PO.imp{o:Option Expr}{t t':TO}(h:PO X o t)(k:∀ σ H Q,t' σ H Q->t σ H Q):PO X o t':=fun pins s σ H Q I q=>h pins s σ H Q I (k σ H Q q)
theorem Z8:SO X none T2:=PO.imp b2q fun σ H Q ⟨π,α,δ,h,Q',R,S,f,k⟩=>k none h α H f (Ext.refl ..) R
theorem O9(h:SE X e fe):SO X (some e) (a0A fe):=PO.imp (b3z h) fun σ H Q zz0=>by
 obtain ⟨π,α,δ,h,Q',R,S,f,k⟩:=zz0;refine ⟨π,α,δ,h,_,R,S,f,fun d h1 α1 H1 v1 f1 e1 R1 q1=>?_⟩
 cases q1 with
 |int i=>exact ⟨i,rfl,k (some i) h1 α1 H1 f1 e1 R1⟩
 |_=>exact f1.elim
def c2a(K:PySem.W.Frag):V->Option Int->Option Int->Hp->VK->Prop:=fun x lo hi H Q=>∃ a xs,x = .ref a/\SqT K H a xs/\(S4 xs lo hi=xs->Q (.ref a) H)/\∀ p,H p=none->Q (.ref p) (upd H p (.tup (S4 xs lo hi)))
theorem sl_tupD:SlR X (c2a X.K):=by
 intro pins s σ H x v vl vu lo hi sl Q I rx hs pl pu h;obtain ⟨a,xs,rfl,hx,q1,q2⟩:=h
 by_cases hw:HT.sIx xs.length 0 lo=0/\HT.sIx xs.length xs.length hi=xs.length
 ·cases rx;obtain ⟨its,r,ht,hz⟩:=I.tuple hx;have hlen:its.toArray.size=xs.length:=by rw [List.size_toArray];exact r.length.symm
  refine ⟨"tuple",_,PyProof.Rows.slot_tuple_getitem.lookup,ht.typeIs,?_⟩
  have ec:S4 xs lo hi=xs:=by
   unfold S4;rw [hw.1,hw.2,List.drop_zero,Nat.sub_zero,List.take_length]
  exact HT.getItem_tuple_all ht hs pl pu (by rw [hlen];exact hw) ⟨.ref a,H,I,rfl,q1 ec⟩
 ·exact b7D pins s σ H (.ref a) v vl vu lo hi sl Q I rx hs pl pu ⟨a,xs,rfl,hx,hw,fun p hp=>q2 p hp⟩
def c3o(fe:DE)(fl fh:DO):DN:=fun δ h Q=>fe δ h fun d h1=>fl δ h1 fun l h2=>fh δ h2 fun u h3=>match A4 h3 d with | some xs=>Q (a0I xs l u) h3 | none=>False
end
end DL
namespace DL
open PySem PySem.Spec L2
def c9(i:Nat):DG:=fun d δ h Q=>Q (δ.set i (some d)) h
def M6:DGs:=fun ds δ h Q=>match ds with | []=>Q δ h | _=>False
def u8(t:DG)(u:DGs):DGs:=fun ds δ h Q=>match ds with | d :: r=>t d δ h fun δ' h'=>u r δ' h' Q | []=>False
def a2f(n:Nat)(t:DGs):DG:=fun d δ h Q=>match d with | .tup xs=>xs.length=n/\t xs δ h Q | _=>False
def a5H(n:Nat)(t:DGs):DG:=fun d δ h Q=>match A4 h d with | some xs=>xs.length=n/\t xs δ h Q | none=>False
section
variable {X:Cx} {pos:Pos}
theorem i6{i:Nat}{x:Str}(hN:X.N.Nodup)(hi:X.N[i]?=some x)(hx:Loc X.env.scope x)(hf:X.fn x=true\/X.env.scope.names.lookup x=some .local:=by trivial):SG X (.Name x pos) (c9 i):=PG.imp (b2o hN hi hx hf) fun v σ H Q ⟨π,α,δ,h,d,Q',R,S,r,f,k⟩ =>
 k _ h α H _ f (Ext.refl ..) R (S.set i r)
theorem E4:SGs X [] M6:=PGs.imp b2H fun vs σ H Q zz0=>by
 obtain ⟨π,α,δ,h,ds,Q',R,S,r,f,k⟩:=zz0
 cases r with
 |nil=>exact ⟨rfl,k δ h α H σ f (Ext.refl ..) R S⟩
 |cons _ _=>exact f.elim
theorem p7{e:Expr}{es:List Expr}{t:DG}{u:DGs}(h1:SG X e t)(h2:SGs X es u)(hs:(assignEach (e :: es) X.env).map (·.2)=assign e X.env :: (assignEach es X.env).map (·.2):=by rfl):SGs X (e :: es) (u8 t u):=PGs.imp (b0k h1 h2 hs) fun vs σ H Q zz0=>by
 obtain ⟨π,α,δ,h,ds,Q',R,S,r,f,k⟩:=zz0
 cases r with
 |nil=>exact f.elim
 |@cons d v ds us rd rs =>
  refine ⟨v,us,rfl,π,α,δ,h,d,_,R,S,rd,f,fun δ1 h1 α1 H1 σ1 f1 e1 R1 S1=>?_⟩;exact ⟨π,α1,δ1,h1,ds,Q',R1,S1,rs.mono e1,f1,fun δ' h' α' H' σ' a b c d'=>k δ' h' α' H' σ' a (e1.trans b) c d'⟩
theorem Q8{es:List Expr}{j:Nat}{t:DGs}{n:Nat}(hc:X.calm=true)(h:SGs X es t)(hn:(assignEach es X.env).length=n:=by rfl)(hst:(assignEach es X.env).findIdx? (·.1)=none:=by rfl):SG X (.Tuple es j pos) (a2f n t):=PG.imp (b6R hc h hn hst) fun v σ H Q zz0=>by
 obtain ⟨π,α,δ,h,d,Q',R,S,r,f,k⟩:=zz0
 cases r with
 |@tup a us ds t rs=>exact ⟨a,us,rfl,t.sq,by rw [<- rs.length];exact f.1,π,α,δ,h,ds,Q',R,S,rs,f.2,k⟩
 |_=>exact f.elim
theorem a5g{es:List Expr}{j:Nat}{t:DGs}{n:Nat}(hc:X.calm=true)(h:SGs X es t)(hn:(assignEach es X.env).length=n:=by rfl)(hst:(assignEach es X.env).findIdx? (·.1)=none:=by rfl):SG X (.Tuple es j pos) (a5H n t):=PG.imp (b2W hc h hn hst) fun v σ H Q zz0=>by
 obtain ⟨π,α,δ,h,d,Q',R,S,r,f,k⟩:=zz0;unfold a5H at f
 cases w:A4 h d with
 |none=>rw [w] at f;exact f.elim
 |some xs =>
  rw [w] at f;obtain ⟨p,us,rfl,b,c⟩:=P3 R r w;exact ⟨p,us,rfl,b,by rw [<- c.length];exact f.1,π,α,δ,h,xs,Q',R,S,c,f.2,k⟩
def b4m(o i v:D)(h:Hh)(Q:Hh->Prop):Prop:=match o,i with
 |.ref j,.int k=>match h[j]? with
  |some (.lst xs)=>match ixN xs.length k with
   |some m=>Q (h.set j (.lst (xs.set m v)))
   |none=>False
  |_=>False
 |_,_=>False
def a0t(fo fi:DE):DG:=fun v δ h Q=>fo δ h fun o h1=>fi δ h1 fun i h2=>b4m o i v h2 fun h3=>Q δ h3
theorem a9i{K:PySem.W.Frag}{π α:List Addr}{H:Hp}{h:Hh}{o i v:D}{ov iv vv:V}{Q':Hh->Prop}{Q:Hp->Prop}(R:HRel ⟨K,π⟩ α H h)(ro:RelD ⟨K,π⟩ α H o ov)(ri:RelD ⟨K,π⟩ α H i iv)(rv:RelD ⟨K,π⟩ α H v vv)(f:b4m o i v h Q')
  (k:∀ h' H',Q' h'->Ext α H α H'->HRel ⟨K,π⟩ α H' h'->Q H'):b4Z ov iv vv H Q:=by
 unfold b4m at f
 cases ro with
 |@ref j a hp =>
  cases ri with
  |int n =>
   dsimp only at f
   cases w:h[j]? with
   |none=>rw [w] at f;exact f.elim
   |some ob =>
    rw [w] at f
    cases ob with
    |lst xs =>
     dsimp only at f;obtain ⟨p,us,e1,e2,e3⟩:=R.lst w;rw [hp] at e1;cases e1
     cases q:ixN xs.length n with
     |none=>rw [q] at f;exact f.elim
     |some m =>
      rw [q] at f;have e4:Ext α H α (upd H a (.lst (us.set m vv))):=Ext.write (List.mem_of_getElem? hp);refine ⟨a,us,n,m,rfl,rfl,e2,by rw [<- e3.length];exact q,k _ _ f e4 (R.write hp (.lst j7 ((RelDs.set rv m e3).mono e4)))⟩
    |_=>exact f.elim
  |_=>exact f.elim
 |_=>exact f.elim
theorem O6{o i:Expr}{fo fi:DE}(ho:SE X o fo)(hi:SE X i fi)
  (ha:∀ v,assign (.Subscript o i pos) X.env v=(do
   let ov <- holding [v] (eval o X.env)
   let iv <- holding [v,ov] (eval i X.env)
   standAt pos
   holding [v,ov,iv] (setItem ov iv v)
   release [v,ov,iv] []):=by intro _;rfl):SG X (.Subscript o i pos) (a0t fo fi):=PG.imp (b8u ho hi a8f ha) fun v σ H Q ⟨π,α,δ,h,d,Q',R,S,r,f,k⟩=>by
 refine ⟨π,α,δ,h,_,R,S,f,fun o h1 α1 H1 v1 f1 e1 R1 q1=>?_⟩;refine ⟨π,α1,δ,h1,_,R1,S.mono e1,f1,fun i h2 α2 H2 v2 f2 e2 R2 q2=>?_⟩;exact a9i R2 (q1.mono e2) q2 (r.mono (e1.trans e2)) f2 fun h3 H3 f3 e3 R3=>k δ h3 α2 H3 σ f3 (e1.trans (e2.trans e3)) R3 (S.mono (e1.trans (e2.trans e3)))
end
def o0:DS:=fun E δ h=>E.nx δ h
def f7(f g:DS):DS:=fun E δ h=>f { E with nx:=g E } δ h
def a8V:DS:=fun _ _ _=>False
def c1G:DS:=fun E δ h=>E.bk δ h
def c2Y:DS:=fun E δ h=>E.ct δ h
def y9(f:DE):DS:=fun E δ h=>f δ h fun _ h1=>E.nx δ h1
def m5(f:DE):DS:=fun E δ h=>f δ h E.rt
def c2J:DS:=fun E _ h=>E.rt .non h
def v7(t:DT)(f g:DS):DS:=fun E δ h=>t δ h fun c h1=>if c=true then f E δ h1 else g E δ h1
def j0(f:DE)(g:DG):DS:=fun E δ h=>f δ h fun x h1=>g x δ h1 E.nx
def c3m(i:Nat)(f:DE)(p:P2):DS:=fun E δ h=>match δ[i]? with | some (some x)=>f δ h fun y h1=>p x y h1 fun z h2=>E.nx (δ.set i (some z)) h2 | _=>False
section
variable {X:Cx} {s:Stmt} {ss:List Stmt} {f g:DS} {e:Expr} {fe:DE} {pos:Pos}
theorem a6W{K:PySem.W.Frag}{Ex:XK}{F:a0O}{σ:L2.St}{H:Hp}(w:LS K Ex (f7 f g) F σ H):b9W (LS K Ex f) (LS K Ex g) F σ H:=by
 obtain ⟨π,α,δ,h,E,R,S,q,k⟩:=w;exact ⟨π,α,δ,h,{ E with nx:=g E },R,S,q,⟨fun δ' h' α' H' σ' a b c d=>⟨π,α',δ',h',E,c,d,a,k.mono b⟩,k.rt,k.bk,k.ct,k.ex⟩⟩
theorem j9:SSs X [] o0:=PSs.imp b2R fun F σ H ⟨π,α,δ,h,E,R,S,q,k⟩=>k.nx δ h α H σ q (Ext.refl ..) R S
theorem c8(h:SS X s f):SSs X [s] f:=b1W h
theorem b9(h1:SS X s f)(h2:SSs X ss g):SSs X (s :: ss) (f7 f g):=PSs.imp (a9D h1 h2) fun _ _ _ w=>a6W w
theorem b2N:SS X s a8V:=PS.imp b0o fun F σ H ⟨π,α,δ,h,E,R,S,q,k⟩=>q.elim
theorem t9(he:SE X e fe)(hs:swapsWith e none pos.line X.env=pure false:=by rfl):SS X (.Expr e pos) (y9 fe):=PS.imp (b3b he hs) fun F σ H ⟨π,α,δ,h,E,R,S,q,k⟩ =>
 ⟨π,α,δ,h,_,R,S,q,fun d h1 α1 H1 v1 f1 e1 R1 q1=>k.nx δ h1 α1 H1 σ f1 e1 R1 (S.mono e1)⟩
theorem j2(he:SE X e fe):SS X (.Return (some e) pos) (m5 fe):=PS.imp (b5U he) fun F σ H ⟨π,α,δ,h,E,R,S,q,k⟩=>⟨π,α,δ,h,_,R,S,q,fun d h1 α1 H1 v1 f1 e1 R1 q1=>k.rt d h1 α1 H1 v1 f1 e1 R1 q1⟩
theorem v8{c:Expr}{a b:List Stmt}{t:DT}(hc:ST X c t)(ha:SSs X a f)(hb:SSs X b g):SS X (.If c a b pos) (v7 t f g):=PS.imp (b9s hc ha hb) fun F σ H zz0=>by
 obtain ⟨π,α,δ,h,E,R,S,q,k⟩:=zz0;refine ⟨π,α,δ,h,_,R,S,q,fun c h1 α1 H1 f1 e1 R1=>?_⟩
 cases c with
 |true=>exact a0X ⟨π,α1,δ,h1,E,R1,S.mono e1,by simpa using f1,k.mono e1⟩
 |false=>exact a0w ⟨π,α1,δ,h1,E,R1,S.mono e1,by simpa using f1,k.mono e1⟩
theorem a9m{K:PySem.W.Frag}{Ex:XK}{tg:DG}{F:a0O}{σ:L2.St}{H:Hp}(w:LS K Ex (j0 fe tg) F σ H):a7D (LE K fe) (LG K tg) F σ H:=by
 obtain ⟨π,α,δ,h,E,R,S,q,k⟩:=w;refine ⟨π,α,δ,h,_,R,S,q,fun d h1 α1 H1 v1 f1 e1 R1 q1=>?_⟩;exact ⟨π,α1,δ,h1,d,E.nx,R1,S.mono e1,q1,f1,fun δ' h' α' H' σ' a b c d'=>k.nx δ' h' α' H' σ' a (e1.trans b) c d'⟩
theorem N0{tg:Expr}{t:DG}(he:SE X e fe)(hg:SG X tg t)(hs:swapsWithSole [tg] e pos.line X.env=pure false:=by rfl)(hw:swappedStores [tg] e X.env=pure none:=by rfl)
  (h1:(assignEach [tg] X.env).map (·.2)=[assign tg X.env]:=by rfl):SS X (.Assign [tg] e pos) (j0 fe t):=PS.imp (b8P he hg hs hw h1) fun _ _ _ w=>a9m w
theorem a5X{K:PySem.W.Frag}{Ex:XK}{i:Nat}{F:a0O}{σ:L2.St}{H:Hp}(w:LS K Ex (j0 fe (c9 i)) F σ H):a7D (LE K fe) (a2K i) F σ H:=by
 obtain ⟨π,α,δ,h,E,R,S,q,k⟩:=w;exact ⟨π,α,δ,h,_,R,S,q,fun d h1 α1 H1 v1 f1 e1 R1 q1=>k.nx _ h1 α1 H1 _ f1 e1 R1 ((S.mono e1).set i q1)⟩
theorem i5{i:Nat}{x:Str}{pos':Pos}(hN:X.N.Nodup)(hi:X.N[i]?=some x)(hx:Loc X.env.scope x)(he:SE X e fe)(hs:swapsWith e (some (.Name x pos')) pos.line X.env=pure false:=by rfl)(hf:X.fn x=true\/X.env.scope.names.lookup x=some .local:=by trivial) :
  SS X (.Assign [.Name x pos'] e pos) (j0 fe (c9 i)):=PS.imp (b7p hN hi hx he hs hf) fun _ _ _ w=>a5X w
def c2O(fo fi fe:DE)(p:P2):DS:=fun E δ h=>fo δ h fun o h1=>fi δ h1 fun i h2=>match o,i with
 |.ref j,.int n=>0 <= n/\match h2[j]? with
  |some (.lst xs)=>match xs[n.toNat]? with
   |some x=>fe δ h2 fun y h3=>p x y h3 fun z h4=>b4m o i z h4 fun h5=>E.nx δ h5
   |none=>False
  |_=>False
 |_,_=>False
end
def whN(t:DT)(b:DS)(E:E8):Nat->Sl->Hh->Prop
 |0,_,_=>False
 |n + 1,δ,h=>t δ h fun c h1=>if c=true then b { E with nx:=whN t b E n,ct:=whN t b E n,bk:=E.nx } δ h1 else E.nx δ h1
def V3(t:DT)(b:DS):DS:=fun E δ h=>∃ n,whN t b E n δ h
theorem Z7{X:Cx}{c:Expr}{body:List Stmt}{t:DT}{b:DS}{pos:Pos}(hp:PassesOwn (model X.prog X.w) X.A X.env X.xe)(hc:ST X c t)(hb:SSs X body b):SS X (.While c body [] pos) (V3 t b):=PS.imp (a7J hp hc hb) fun F σ H zz0=>by
 obtain ⟨π,α,δ,h,E,R,S,q,k⟩:=zz0;obtain ⟨n,q⟩:=q;refine ⟨fun m σ' H'=>∃ α' δ' h',Ext α H α' H'/\HRel ⟨X.K,π⟩ α' H' h'/\RelS ⟨X.K,π⟩ α' H' δ' σ'/\whN t b E m δ' h',⟨n,α,δ,h,Ext.refl ..,R,S,q⟩,?_⟩
 rintro m σ' H' ⟨α',δ',h',e',R',S',q'⟩
 cases m with
 |zero=>exact q'.elim
 |succ m =>
  refine ⟨π,α',δ',h',_,R',S',q',fun c h1 α1 H1 f1 e1 R1=>?_⟩
  cases c with
  |false=>exact a0w (k.nx δ' h1 α1 H1 σ' (by simpa using f1) (e'.trans e1) R1 (S'.mono e1))
  |true =>
   refine a0X ⟨fun σ2 H2=>∃ α2 δ2 h2,Ext α H α2 H2/\HRel ⟨X.K,π⟩ α2 H2 h2/\RelS ⟨X.K,π⟩ α2 H2 δ2 σ2/\whN t b E m δ2 h2,fun σ2 H2 z=>⟨m,Nat.lt_succ_self m,z⟩,?_⟩;have f1:b { E with nx:=whN t b E m,ct:=whN t b E m,bk:=E.nx } δ' h1:=by simpa using f1
   have k1:=k.mono (e'.trans e1);exact ⟨π,α1,δ',h1,_,R1,S'.mono e1,f1,⟨fun δ2 h2 α2 H2 σ2 a b c d=>⟨α2,δ2,h2,e'.trans (e1.trans b),c,d,a⟩,k1.rt,k1.nx,fun δ2 h2 α2 H2 σ2 a b c d=>⟨α2,δ2,h2,e'.trans (e1.trans b),c,d,a⟩,k1.ex⟩⟩
structure Src where
 items:List D
 w:List (Nat×O)
def Src.ok(S:Src)(h:Hh):Prop:=∀ p ∈ S.w,h[p.1]?=some p.2
theorem Src.ok_nil{xs:List D}{h:Hh}:(Src.mk xs []).ok h:=fun p hp=>nomatch hp
abbrev DI:=Sl->Hh->(Src->Hh->Prop)->Prop
structure c1T(K:KP)(J:It)(S:Src)(St:List Addr->Hp->Prop):Prop where
 keep:∀ α H α' H',St α H->Ext α H α' H'->St α' H'
 priv:∀ α H H' D,St α H->Z3 D H H'->D ∈ K.π->St α H'
 item:∀ α H h i d,HRel K α H h->St α H->S.ok h->S.items[i]?=some d->J.go i H/\∀ x H',J.yld i H x H'->Ext α H α H'/\HRel K α H' h/\RelD K α H' d x
 stop:∀ α H h,HRel K α H h->St α H->S.ok h->J.stop S.items.length H
def ItA(K:PySem.W.Frag)(π:List Addr)(α:List Addr)(H:Hp)(J:It)(S:Src):Prop:=∀ π',(∀ p ∈ π',p ∈ π\/H p=none)->∃ St,c1T ⟨K,π'⟩ J S St/\St α H
inductive LI(K:PySem.W.Frag)(f:DI)(σ:St)(H:Hp)(R:It->Hp->Prop):Prop
 |mk (π:List Addr) (α:List Addr) (δ:Sl) (h:Hh) (Q':Src->Hh->Prop):HRel ⟨K,π⟩ α H h->RelS ⟨K,π⟩ α H δ σ->f δ h Q'->(∀ S h' α' H' J,Q' S h'->Ext α H α' H'->HRel ⟨K,π⟩ α' H' h'->ItA K π α' H' J S->S.ok h'->R J H')->LI K f σ H R
def SI(X:Cx)(tg iter:Expr)(f:DI):Prop:=PI X tg iter (LI X.K f)
def a3Z(S:Src)(t:DG)(b:DS)(E:E8):List D->Sl->Hh->Prop
 |[],δ,h=>S.ok h/\E.nx δ h
 |x :: r,δ,h=>S.ok h/\t x δ h fun δ2 h2=>b { E with nx:=a3Z S t b E r,ct:=a3Z S t b E r,bk:=E.nx } δ2 h2
def E2(s:DI)(t:DG)(b:DS):DS:=fun E δ h=>s δ h fun S h1=>a3Z S t b E S.items δ h1
theorem A5{X:Cx}{tg iter:Expr}{body:List Stmt}{s:DI}{t:DG}{b:DS}{pos:Pos}(hp:PassesOwn (model X.prog X.w) X.A X.env X.xe)(hc:X.calm=true)(hi:SI X tg iter s)(hg:SG X tg t)(hb:SSs X body b)
  (hs:∀ x,foldedSetIterable iter X.env x=pure x:=by intro _;rfl):SS X (.For tg iter body [] pos) (E2 s t b):=PS.imp (b5D hp hc hi hg hb hs) fun F σ H ⟨π,α,δ,h,E,R,S,q,k⟩=>by
 refine ⟨π,α,δ,h,_,R,S,q,fun Sr h1 α1 H1 J f1 e1 R1 ia ok1=>?_⟩;obtain ⟨St,io,st1⟩:=ia π (fun p z=>.inl z);refine ⟨fun i m σ' H'=>m=Sr.items.length - i/\i <= Sr.items.length/\∃ α' δ' h',Ext α H α' H'/\HRel ⟨X.K,π⟩ α' H' h'/\RelS ⟨X.K,π⟩ α' H' δ' σ'/\St α' H'/\a3Z Sr t b E (Sr.items.drop i) δ' h',⟨_,rfl,Nat.zero_le _,α1,δ,h1,e1,R1,S.mono e1,st1,f1⟩,?_⟩
 rintro i m σ' H' ⟨rfl,hi,α',δ',h',e',R',S',st',q'⟩
 by_cases hlt:i < Sr.items.length
 ·rw [List.drop_eq_getElem_cons hlt] at q';obtain ⟨okh,q'⟩:=q';obtain ⟨go,yl⟩:=io.item α' H' h' i Sr.items[i] R' st' okh (List.getElem?_eq_getElem hlt);refine .inr ⟨go,fun σ2 H2=>∃ α2 δ2 h2,Ext α H α2 H2/\HRel ⟨X.K,π⟩ α2 H2 h2/\RelS ⟨X.K,π⟩ α2 H2 δ2 σ2/\St α2 H2/\a3Z Sr t b E (Sr.items.drop (i + 1)) δ2 h2,fun σ2 H2 z=>⟨_,by omega,rfl,hlt,z⟩,fun x H2 y2=>?_⟩;obtain ⟨e2,R2,r2⟩:=yl x H2 y2;refine ⟨π,α',δ',h',Sr.items[i],_,R2,S'.mono e2,r2,q',fun δ3 h3 α3 H3 σ3 f3 e3 R3 S3=>?_⟩;have e4:=e'.trans (e2.trans e3);have k3:=k.mono e4;have st3:=io.keep _ _ _ _ st' (e2.trans e3);exact ⟨π,α3,δ3,h3,_,R3,S3,f3,⟨fun δ5 h5 α5 H5 σ5 a b c d=>⟨α5,δ5,h5,e4.trans b,c,d,io.keep _ _ _ _ st3 b,a⟩,k3.rt,k3.nx,fun δ5 h5 α5 H5 σ5 a b c d=>⟨α5,δ5,h5,e4.trans b,c,d,io.keep _ _ _ _ st3 b,a⟩,k3.ex⟩⟩
 ·have ei:i=Sr.items.length:=by omega
  subst ei;rw [List.drop_length] at q';exact .inl ⟨io.stop α' H' h' R' st' q'.1,k.nx δ' h' α' H' σ' q'.2 e' R' S'⟩
def a0u(js:List (Option Nat))(δ:Sl):Sl:=js.map fun j=>match j with
 |some j=>(δ[j]?).getD none
 |none=>none
def Q3(S:Src)(t:DG)(tf:DT)(te:DE):List D->List D->Sl->Hh->(List D->Hh->Prop)->Prop
 |[],acc,_,h,Q=>S.ok h/\Q acc h
 |x :: r,acc,δ,h,Q=>S.ok h/\t x δ h fun δ2 h2=>tf δ2 h2 fun b h3=>if b=true then te δ2 h3 fun y h4=>Q3 S t tf te r (acc ++ [y]) δ2 h4 Q else Q3 S t tf te r acc δ2 h3 Q
def D3(js:List (Option Nat))(s:DI)(t:DG)(tf:DT)(te:DE):DN:=fun δ h Q=>s δ h fun S h1=>S.items.length <= 16777216/\Q3 S t tf te S.items [] (a0u js δ) h1 Q
theorem a5V{K:KP}{α:List Addr}{H:Hp}{δ:Sl}{σ:L2.St}(S:RelS K α H δ σ)(js:List (Option Nat)):RelS K α H (a0u js δ) (N4 js σ):=by
 refine ⟨by unfold a0u N4;simp,fun i d e=>?_⟩;unfold a0u at e;rw [List.getElem?_map] at e;unfold N4;rw [List.getElem?_map]
 cases q:js[i]? with
 |none=>rw [q] at e;cases e
 |some j =>
  rw [q] at e
  cases j with
  |none=>cases e
  |some j =>
   have e:(δ[j]?).getD none=some d:=Option.some.inj e
   cases w:δ[j]? with
   |none=>rw [w] at e;cases e
   |some z =>
    rw [w] at e;have e:z=some d:=e;subst e;obtain ⟨v,h1,h2⟩:=S.get j d w;exact ⟨v,by show some ((σ[j]?).getD none)=_;rw [h1];rfl,h2⟩
theorem a1J{K:PySem.W.Frag}{js:List (Option Nat)}{s:DI}{t:DG}{tf:DT}{te:DE}{σ:L2.St}{H:Hp}{Q:VK}(w:LN K (D3 js s t tf te) σ H Q) :
  a6Z js (LI K s) (fun _ _ _=>LG K t) (fun _ _ _=>LT K tf) (fun _ _ _=>LE K te) σ H Q:=by
 obtain ⟨π,α,δ,h,Q',R,S,q,k⟩:=w;refine ⟨π,α,δ,h,_,R,S,q,fun Sr h1 α1 H1 J f1 e1 R1 ia ok1=>fun Da hD s0 H0 fp=>?_⟩;obtain ⟨hlen,f1⟩:=f1
 have sub:∀ p ∈ Da :: π,p ∈ π\/H1 p=none:=fun p hp=>by
  rcases List.mem_cons.mp hp with rfl | z
  ·exact .inr hD
  ·exact .inl z
 obtain ⟨St,io,st1⟩:=ia (Da :: π) sub;have eN:Ext α1 H1 α1 (upd H1 Da (.lst [])):=Ext.new hD;have hin:Da ∈ (KP.mk K (Da :: π)).π:=List.mem_cons_self
 refine ⟨fun i m σ' H'=>m=Sr.items.length - i/\i <= Sr.items.length/\∃ α' δ' h' acc us,Ext α1 H1 α' H'/\HRel ⟨K,Da :: π⟩ α' H' h'/\RelS ⟨K,Da :: π⟩ α' H' δ' σ'/\St α' H'/\H' Da=some (.lst us)/\RelDs ⟨K,Da :: π⟩ α' H' acc us/\acc.length <= i /\
   Q3 Sr t tf te (Sr.items.drop i) acc δ' h' Q',⟨_,rfl,Nat.zero_le _,α1,a0u js δ,h1,[],[],eN,R1.under hD,(a5V ((S.mono e1).more sub) js).mono eN,io.keep _ _ _ _ st1 eN,j7,.nil,Nat.le_refl _,f1⟩,?_⟩
 rintro i m σ' H' ⟨rfl,hi,α',δ',h',acc,us,e',R',S',st',hus,ra,la,q'⟩
 have nD:Da ∉ α':=(R'.dis Da hin).1
 by_cases hlt:i < Sr.items.length
 ·rw [List.drop_eq_getElem_cons hlt] at q';obtain ⟨okh,q'⟩:=q';obtain ⟨go,yl⟩:=io.item α' H' h' i Sr.items[i] R' st' okh (List.getElem?_eq_getElem hlt);refine .inr ⟨go,fun x H2 y2=>?_⟩;obtain ⟨e2,R2,r2⟩:=yl x H2 y2;refine ⟨Da :: π,α',δ',h',Sr.items[i],_,R2,S'.mono e2,r2,q',fun δ3 h3 α3 H3 σ3 f3 e3 R3 S3=>?_⟩;refine ⟨Da :: π,α3,δ3,h3,_,R3,S3,f3,fun b h4 α4 H4 f4 e4 R4=>?_⟩;have e24:=e2.trans (e3.trans e4)
  cases b with
  |false =>
   refine a0w ⟨_,by omega,rfl,hlt,α4,δ3,h4,acc,us,e'.trans e24,R4,S3.mono e4,io.keep _ _ _ _ st' e24,e24.keep _ _ hus nD,ra.mono e24,by omega,by simpa using f4⟩
  |true =>
   have f4:te δ3 h4 fun y h5=>Q3 Sr t tf te (Sr.items.drop (i + 1)) (acc ++ [y]) δ3 h5 Q':=by simpa using f4
   refine a0X ⟨Da :: π,α4,δ3,h4,_,R4,S3.mono e4,f4,fun y h5 α5 H5 v5 f5 e5 R5 q5=>?_⟩;have e25:=e24.trans e5;have h5D:H5 Da=some (.lst us):=e25.keep _ _ hus nD;have pv:Z3 Da H5 (upd H5 Da (.lst (us ++ [v5]))):=⟨fun b hb=>k6 hb⟩
   have ra5:=ra.mono e25;refine ⟨us,h5D,by rw [<- ra5.length,sizeLine_eq];omega,_,by omega,rfl,hlt,α5,δ3,h5,acc ++ [y],us ++ [v5],(e'.trans e25).grow hD,R5.priv pv hin (by rw [j7];exact ⟨(fun z=>by cases z),fun _ z=>by cases z⟩),(S3.mono (e4.trans e5)).priv pv hin,io.priv _ _ _ _ (io.keep _ _ _ _ st' e25) pv hin,j7,(ra5.snoc q5).priv pv hin,by rw [List.length_append,List.length_singleton];omega,f5⟩
 ·have ei:i=Sr.items.length:=by omega
  subst ei;rw [List.drop_length] at q';exact .inl ⟨io.stop α' H' h' R' st' q'.1,k _ h' α' H' us Da q'.2 (e1.trans e') R' ra hus (e1.dom Da hD) (R1.outP hD)⟩
def L8:DT:=fun _ h Q=>Q true h
section
variable {X:Cx} {pins:List (Addr×Obj)} {σ:L2.St} {H:Hp} {s:Shared} {N':List Str} {js:List (Option Nat)} {scope:Scope}
def SF(X:Cx)(es:List Expr)(t:DT):Prop:=PF X es (LT X.K t)
theorem PF.imp{es:List Expr}{t t':TT}(h:PF X es t)(k:∀ σ H Q,t' σ H Q->t σ H Q):PF X es t':=fun pins s σ H Q I q=>h pins s σ H Q I (k σ H Q q)
theorem G8:SF X [] L8:=PF.imp b8a fun σ H Q ⟨π,α,δ,h,Q',R,S,f,k⟩=>k true h α H f (Ext.refl ..) R
theorem a2u{c:Expr}{t:DT}(h:ST X c t):SF X [c] t:=b7m h
variable {tg iter elt:Expr} {ifs:List Expr} {pos:Pos} {sr:DI} {g:DG} {tf:DT} {te:DE}
theorem z8(hc:X.calm=true)(C:CompOk X N' js scope)(hi:SI X tg iter sr)
  (body:∀ (s0:Shared) (H0:Hp) (fp:List Addr),SG (o9 X N' scope s0 H0 fp) tg g/\SF (o9 X N' scope s0 H0 fp) ifs tf/\SE (o9 X N' scope s0 H0 fp) elt te)
  (hs:∀ x,foldedSetIterable iter X.env x=pure x:=by intro _;rfl):SN X (.ListComp elt [⟨tg,iter,ifs,0⟩] scope pos) (D3 js sr g tf te) :=
 PE.imp (b3d hc C hi (g:=fun _ _ _=>LG X.K g) (tf:=fun _ _ _=>LT X.K tf) (te:=fun _ _ _=>LE X.K te) body hs) fun _ _ _ w=>a1J w
theorem b3Z{i:Nat}{x:Str}{px cpos:Pos}(hc:X.calm=true)(C:CompOk X N' js scope)(hi:SI X tg iter sr)
  (body:∀ (s0:Shared) (H0:Hp) (fp:List Addr),SG (o9 X N' scope s0 H0 fp) tg g/\SF (o9 X N' scope s0 H0 fp) ifs tf/\SE (o9 X N' scope s0 H0 fp) elt te)
  (hN:X.N.Nodup) (hix:X.N[i]?=some x) (hx:Loc X.env.scope x)
  (hsw:swapsWith (.ListComp elt [⟨tg,iter,ifs,0⟩] scope cpos) (some (.Name x px)) pos.line X.env=pure true:=by rfl) (hf:X.fn x=true\/X.env.scope.names.lookup x=some .local:=by trivial)
  (hs:∀ x,foldedSetIterable iter X.env x=pure x:=by intro _;rfl):SS X (.Assign [.Name x px] (.ListComp elt [⟨tg,iter,ifs,0⟩] scope cpos) pos) (j0 (dV (D3 js sr g tf te)) (c9 i)) :=
 PS.imp (b2r hc C hi (g:=fun _ _ _=>LG X.K g) (tf:=fun _ _ _=>LT X.K tf) (te:=fun _ _ _=>LE X.K te) body hN hix hx hsw hf hs) fun F σ H w=>by
  obtain ⟨π,α,δ,h,E,R,S,q,k⟩:=w;exact a1J (Q:=fun x H1=>a2K i x σ H1 F.nx) ⟨π,α,δ,h,_,R,S,q,fun ds h1 α1 H1 us p f1 e1 R1 q1 hus hp np=>k.nx _ h1 α1 H1 _ f1 e1 R1.less (((S.mono e1)).set i (.lst ⟨(R1.dis p List.mem_cons_self).1,np,hus⟩ (q1.more fun q hq=>.inl (List.mem_cons_of_mem _ hq))))⟩
end
end DL
namespace DL
open PySem PySem.Spec L2
mutual
inductive IsP(h:Hh):D->PyData->Prop
 |non:IsP h .non .none
 |bl (b:Bool):IsP h (.bl b) (.bool b)
 |int (i:Int):IsP h (.int i) (.int i)
 |str (x:Str):IsP h (.str x) (.str x)
 |tup {ds:List D} {ps:List PyData}:a4f h ds ps->IsP h (.tup ds) (.tuple ps)
 |lst {ds:List D} {ps:List PyData}:a4f h ds ps->IsP h (.lst ds) (.list ps)
 |ref {i:Nat} {ds:List D} {ps:List PyData}:h[i]?=some (.lst ds)->a4f h ds ps->IsP h (.ref i) (.list ps)
inductive a4f(h:Hh):List D->List PyData->Prop
 |nil:a4f h [] []
 |cons {d:D} {p:PyData} {ds:List D} {ps:List PyData}:IsP h d p->a4f h ds ps->a4f h (d :: ds) (p :: ps)
end
section
variable {X:Cx} {pins:List (Addr×Obj)} {σ:L2.St} {H:Hp} {s:Shared} {π α:List Addr} {h:Hh}
theorem IsP.reads(I:Inv X pins σ H s)(R:HRel ⟨X.K,π⟩ α H h){d:D}{p:PyData}(e:IsP h d p):∀ {v:V} {u:Value},RelD ⟨X.K,π⟩ α H d v->RelV v u->∃ as,Reads s.heap u p as:=by
 refine IsP.rec (motive_1:=fun d p _=>∀ {v:V} {u:Value},RelD ⟨X.K,π⟩ α H d v->RelV v u->∃ as,Reads s.heap u p as) (motive_2:=fun ds ps _=>∀ {vs:List V} {us:List Value},RelDs ⟨X.K,π⟩ α H ds vs->Vals vs us->∃ as,ReadsAll s.heap us ps as) ?_ ?_ ?_ ?_ ?_ ?_ ?_ ?_ ?_ e
 ·intro v u q r;cases q;cases r;exact ⟨_,.none⟩
 ·intro b v u q r;cases q;cases r;exact ⟨_,.bool b⟩
 ·intro i v u q r;cases q;obtain ⟨t,rfl⟩:=r;exact ⟨_,.int i t⟩
 ·intro x v u q r;cases q;obtain ⟨t,rfl⟩:=r;exact ⟨_,.str x t⟩
 ·intro ds ps _ ih v u q0 r
  cases q0 with
  |tup t rr =>
   cases r;obtain ⟨its,rv,⟨o,q,c,n,d⟩,_⟩:=I.tuple t.sq;obtain ⟨as,ra⟩:=ih rr rv;exact ⟨_,.tuple q c d (by simpa using ra)⟩
 ·intro ds ps _ ih v u q0 r
  cases q0 with
  |lst t rr =>
   cases r;obtain ⟨its,rv,⟨o,n,q,c,_,d⟩,_⟩:=I.list t.sq;obtain ⟨as,ra⟩:=ih rr rv;exact ⟨_,.list q c d (by simpa using ra)⟩
 ·intro i ds ps hh _ ih v u q0 r
  cases q0 with
  |ref hp =>
   cases r;obtain ⟨a,us,e1,e2,e3⟩:=R.lst hh;rw [hp] at e1;cases e1;obtain ⟨its,rv,⟨o,n,q,c,_,d⟩,_⟩:=I.list (SqL.of (K:=X.K) e2);obtain ⟨as,ra⟩:=ih e3 rv;exact ⟨_,.list q c d (by simpa using ra)⟩
 ·intro vs us q r;cases q;cases r;exact ⟨_,.nil⟩
 ·intro d ds p ps _ _ ih iht vs us q r
  cases q with
  |cons rr rs =>
   cases r with
   |cons r1 r2 =>
    obtain ⟨as,ra⟩:=ih rr r1;obtain ⟨bs,rb⟩:=iht rs r2;exact ⟨_,.cons ra rb⟩
end
def eqS:D->D->Option Bool
 |.int i,.int j=>some (i == j)
 |.str a,.str b=>if PyData.strOk a && PyData.strOk b then some (a == b) else none
 |.bl a,.bl b=>some (a == b)
 |.non,.non=>some true
 |.int _,.str b=>if PyData.strOk b then some false else none
 |.str a,.int _=>if PyData.strOk a then some false else none
 |.non,.int _=>some false
 |.int _,.non=>some false
 |.non,.tup _=>none
 |_,_=>none
def pEq(neg:Bool):P2:=fun x y h Q=>match eqS x y with
 |some b=>Q (.bl (if neg then !b else b)) h
 |none=>∃ a b,IsP h x a/\IsP h y b/\SeqAt.shaped a=true/\SeqAt.shaped b=true/\Q (.bl (if neg then !PyData.eqv a b else PyData.eqv a b)) h
theorem b7M{h:Hh}{x y:D}{b:Bool}(e:eqS x y=some b):∃ p q,IsP h x p/\IsP h y q/\SeqAt.shaped p=true/\SeqAt.shaped q=true/\PyData.eqv p q=b:=by
 have si:∀ i:Int,SeqAt.shaped (.int i)=true:=fun i=>by simp [SeqAt.shaped,PyData.canLay0,PyData.depth]
 have sn:SeqAt.shaped .none=true:=by simp [SeqAt.shaped,PyData.canLay0,PyData.depth]
 have sb:∀ b:Bool,SeqAt.shaped (.bool b)=true:=fun i=>by simp [SeqAt.shaped,PyData.canLay0,PyData.depth]
 have ss:∀ x:Str,PyData.strOk x=true->SeqAt.shaped (.str x)=true:=fun x hx=>by simp [SeqAt.shaped,PyData.canLay0,PyData.depth,hx]
 cases x with
 |int i =>
  cases y with
  |int j=>cases e;exact ⟨_,_,.int _,.int _,si _,si _,rfl⟩
  |str t =>
   have e:(if PyData.strOk t=true then some false else none)=some b:=e
   by_cases q:PyData.strOk t=true
   ·rw [if_pos q] at e;cases e;exact ⟨_,_,.int _,.str _,si _,ss _ q,rfl⟩
   ·rw [if_neg q] at e;cases e
  |non=>cases e;exact ⟨_,_,.int _,.non,si _,sn,rfl⟩
  |_=>cases e
 |str a =>
  cases y with
  |int j =>
   have e:(if PyData.strOk a=true then some false else none)=some b:=e
   by_cases q:PyData.strOk a=true
   ·rw [if_pos q] at e;cases e;exact ⟨_,_,.str _,.int _,ss _ q,si _,rfl⟩
   ·rw [if_neg q] at e;cases e
  |str t =>
   have e:(if (PyData.strOk a && PyData.strOk t)=true then some (a == t) else none)=some b:=e
   by_cases q:(PyData.strOk a && PyData.strOk t)=true
   ·rw [if_pos q] at e;rw [Bool.and_eq_true] at q
    cases e;exact ⟨_,_,.str _,.str _,ss _ q.1,ss _ q.2,rfl⟩
   ·rw [if_neg q] at e;cases e
  |_=>cases e
 |bl a =>
  cases y with
  |bl c=>cases e;exact ⟨_,_,.bl _,.bl _,sb _,sb _,rfl⟩
  |_=>cases e
 |non =>
  cases y with
  |non=>cases e;exact ⟨_,_,.non,.non,sn,sn,rfl⟩
  |int j=>cases e;exact ⟨_,_,.non,.int _,sn,si _,rfl⟩
  |_=>cases e
 |_=>cases e
section
variable {X:Cx}
theorem a5b{neg:Bool}{x y:D}{h:Hh}{Q:DK}(f:pEq neg x y h Q):∃ a b,IsP h x a/\IsP h y b/\SeqAt.shaped a=true/\SeqAt.shaped b=true/\Q (.bl (if neg then !PyData.eqv a b else PyData.eqv a b)) h:=by
 unfold pEq at f
 cases q:eqS x y with
 |none=>rw [q] at f;exact f
 |some b =>
  rw [q] at f;obtain ⟨p,q,a,b',c,d,e⟩:=b7M (h:=h) q;exact ⟨p,q,a,b',c,d,by rw [e];exact f⟩
theorem z9(hu:X.A.units + 64 < cLine):OpR X (compareOp .Eq) (r2 X.K (pEq false)):=by
 intro pins s σ H x y v u Q I rx ry ⟨π,α,h,d,e,Q',R,r1,r2,f,k⟩;obtain ⟨a,b,ia,ib,sa,sb,q⟩:=a5b f;obtain ⟨as,ra⟩:=ia.reads I R r1 rx;obtain ⟨bs,rb⟩:=ib.reads I R r2 ry;exact SeqAt.compareEq_shaped ra rb sa sb hu ⟨.bl (PyData.eqv a b),H,I,rfl,k _ h α H _ q (Ext.refl ..) R (.bl _)⟩
theorem L9(hu:X.A.units + 64 < cLine):OpR X (compareOp .NotEq) (r2 X.K (pEq true)):=by
 intro pins s σ H x y v u Q I rx ry ⟨π,α,h,d,e,Q',R,r1,r2,f,k⟩;obtain ⟨a,b,ia,ib,sa,sb,q⟩:=a5b f;obtain ⟨as,ra⟩:=ia.reads I R r1 rx;obtain ⟨bs,rb⟩:=ib.reads I R r2 ry;exact SeqAt.compareNe_shaped ra rb sa sb hu ⟨.bl (!PyData.eqv a b),H,I,rfl,k _ h α H _ q (Ext.refl ..) R (.bl _)⟩
end
structure c0I(K:KP)(Sq:Hp->List V->Prop)(xs:List D)(w:List (Nat×O))(St:List Addr->Hp->Prop):Prop where
 keep:∀ α H α' H',St α H->Ext α H α' H'->St α' H'
 priv:∀ α H H' D,St α H->Z3 D H H'->D ∈ K.π->St α H'
 get:∀ α H h,HRel K α H h->St α H->(∀ p ∈ w,h[p.1]?=some p.2)->∃ us,Sq H us/\RelDs K α H xs us
def a7y(K:PySem.W.Frag)(π α:List Addr)(H:Hp)(Sq:Hp->List V->Prop)(xs:List D)(w:List (Nat×O)):Prop:=∀ π',(∀ p ∈ π',p ∈ π\/H p=none)->∃ St,c0I ⟨K,π'⟩ Sq xs w St/\St α H
def F3(h:Hh):D->Option Src
 |.tup xs=>some ⟨xs,[]⟩
 |.lst xs=>some ⟨xs,[]⟩
 |.scr xs=>some ⟨xs,[]⟩
 |.ref i=>match h[i]? with | some (.lst xs)=>some ⟨xs,[(i,.lst xs)]⟩ | _=>none
 |_=>none
theorem a1G{K:PySem.W.Frag}{π α:List Addr}{H:Hp}{h:Hh}(R:HRel ⟨K,π⟩ α H h){d:D}{v:V}{S:Src}(r:RelD ⟨K,π⟩ α H d v)(e:F3 h d=some S) :
  ∃ a,v = .ref a/\S.ok h/\(((∃ us,SqL K H a us)/\a7y K π α H (fun H us=>SqL K H a us) S.items S.w)\/((∃ us,SqT K H a us)/\a7y K π α H (fun H us=>SqT K H a us) S.items S.w)):=by
 cases r with
 |@tup a us ds t rs =>
  cases e;exact ⟨a,rfl,Src.ok_nil,.inr ⟨⟨us,t.sq⟩,fun π' s=>⟨fun α H=>VT ⟨K,π'⟩ α H a us/\RelDs ⟨K,π'⟩ α H ds us,⟨fun α H α' H' st e=>⟨st.1.mono e,st.2.mono e⟩,fun α H H' D st e hD=>⟨st.1.priv e hD,st.2.priv e hD⟩,fun α H h R st _=>⟨us,st.1.sq,st.2⟩⟩,t.more s,rs.more s⟩⟩⟩
 |@lst a us ds t rs =>
  cases e;exact ⟨a,rfl,Src.ok_nil,.inl ⟨⟨us,t.sq⟩,fun π' s=>⟨fun α H=>VL ⟨K,π'⟩ α H a us/\RelDs ⟨K,π'⟩ α H ds us,⟨fun α H α' H' st e=>⟨st.1.mono e,st.2.mono e⟩,fun α H H' D st e hD=>⟨st.1.priv e hD,st.2.priv e hD⟩,fun α H h R st _=>⟨us,st.1.sq,st.2⟩⟩,t.more s,rs.more s⟩⟩⟩
 |@scr a us ds t rs =>
  cases e;exact ⟨a,rfl,Src.ok_nil,.inl ⟨⟨us,t.sq⟩,fun π' s=>⟨fun α H=>VS ⟨K,π'⟩ α H a us/\RelDs ⟨K,π'⟩ α H ds us,⟨fun α H α' H' st e=>⟨st.1.mono e,st.2.mono e⟩,fun α H H' D st e hD=>⟨st.1.priv e hD,st.2.priv e hD⟩,fun α H h R st _=>⟨us,st.1.sq,st.2⟩⟩,t.more s,rs.more s⟩⟩⟩
 |@ref i a hp =>
  have e:(match h[i]? with | some (.lst xs)=>some (Src.mk xs [(i,.lst xs)]) | _=>none)=some S:=e
  cases q:h[i]? with
  |none=>rw [q] at e;cases e
  |some o =>
   rw [q] at e
   cases o with
   |lst xs =>
    cases e;obtain ⟨p,us,e1,e2,e3⟩:=R.lst q;rw [hp] at e1;cases e1;refine ⟨a,rfl,fun z hz=>by rw [List.mem_singleton.mp hz];exact q,.inl ⟨⟨us,SqL.of e2⟩,fun π' s=>⟨fun α H=>α[i]?=some a,⟨fun α H α' H' st e=>e.get st,fun α H H' D st e hD=>st,fun α H h R st w=>?_⟩,hp⟩⟩⟩;obtain ⟨p,us,e1,e2,e3⟩:=R.lst (w (i,.lst xs) (List.mem_singleton.mpr rfl));rw [st] at e1;cases e1;exact ⟨us,SqL.of e2,e3⟩
   |_=>cases e
 |_=>cases e
theorem b4i{K:PySem.W.Frag}{π α:List Addr}{H:Hp}{a:Addr}{S:Src}(s:a7y K π α H (fun H us=>SqL K H a us) S.items S.w):ItA K π α H (Itl K a) S:=fun π' sub=>by
 obtain ⟨St,si,st⟩:=s π' sub;refine ⟨St,⟨si.keep,si.priv,fun α H h i d R st ok hi=>?_,fun α H h R st ok=>?_⟩,st⟩
 ·obtain ⟨us,hq,rs⟩:=si.get α H h R st ok;obtain ⟨u,hu,ru⟩:=rs.get hi;refine ⟨⟨us,u,hq,hu⟩,fun x H' ⟨e1,e2⟩=>?_⟩;subst e1
  have:=(e2 us hq).symm.trans hu
  cases this;exact ⟨Ext.refl ..,R,ru⟩
 ·obtain ⟨us,hq,rs⟩:=si.get α H h R st ok;exact ⟨us,hq,by rw [<- rs.length];exact Nat.le_refl _⟩
theorem b7G{K:PySem.W.Frag}{π α:List Addr}{H:Hp}{a:Addr}{S:Src}(s:a7y K π α H (fun H us=>SqT K H a us) S.items S.w):ItA K π α H (Itt K a) S:=fun π' sub=>by
 obtain ⟨St,si,st⟩:=s π' sub;refine ⟨St,⟨si.keep,si.priv,fun α H h i d R st ok hi=>?_,fun α H h R st ok=>?_⟩,st⟩
 ·obtain ⟨us,hq,rs⟩:=si.get α H h R st ok;obtain ⟨u,hu,ru⟩:=rs.get hi;refine ⟨⟨us,u,hq,hu⟩,fun x H' ⟨e1,e2⟩=>?_⟩;subst e1
  have:=(e2 us hq).symm.trans hu
  cases this;exact ⟨Ext.refl ..,R,ru⟩
 ·obtain ⟨us,hq,rs⟩:=si.get α H h R st ok;exact ⟨us,hq,by rw [<- rs.length];exact Nat.le_refl _⟩
def J1:Int->List D->List D
 |_,[]=>[]
 |n,x :: r=>.tup [.int n,x] :: J1 (n + 1) r
theorem W3:∀ (n:Int) (xs:List D) (i:Nat),(J1 n xs)[i]?=(xs[i]?).map fun x=>.tup [.int (n + i),x]
 |n,[],i=>by simp [J1]
 |n,x :: r,0=>by simp [J1]
 |n,x :: r,i + 1=>by
  have:=W3 (n + 1) r i
  simp only [J1,List.getElem?_cons_succ,this]
  congr 1;funext y;congr 3;push_cast;omega
theorem L5:∀ (n:Int) (xs:List D),(J1 n xs).length=xs.length
 |_,[]=>rfl
 |n,x :: r=>by simp [J1,L5 (n + 1) r]
theorem a5j{K:PySem.W.Frag}{π α:List Addr}{H:Hp}{Sq:Hp->List V->Prop}{S:Src}(s:a7y K π α H Sq S.items S.w):ItA K π α H (Ite Sq) ⟨J1 0 S.items,S.w⟩:=fun π' sub=>by
 obtain ⟨St,si,st⟩:=s π' sub;refine ⟨St,⟨si.keep,si.priv,fun α H h i d R st ok hi=>?_,fun α H h R st ok=>?_⟩,st⟩
 ·rw [W3] at hi
  cases q:S.items[i]? with
  |none=>rw [q] at hi;cases hi
  |some y =>
   rw [q] at hi;cases hi;obtain ⟨us,hq,rs⟩:=si.get α H h R st ok;obtain ⟨u,hu,ru⟩:=rs.get q;refine ⟨⟨us,u,hq,hu⟩,fun x H' ⟨T,v,e0,hT,e1,e2⟩=>?_⟩;subst e0 e1
   have:=(e2 us hq).symm.trans hu
   obtain rfl:=Option.some.inj this
   have e3:Ext α H α (upd H T (.tup [.int (i:Nat),v])):=Ext.new hT;refine ⟨e3,R.new hT,.tup ⟨R.out hT,R.outP hT,j7⟩ (.cons ?_ (.cons (ru.mono e3) .nil))⟩;rw [Int.zero_add];exact .int _
 ·obtain ⟨us,hq,rs⟩:=si.get α H h R st ok;exact ⟨us,hq,by rw [L5,rs.length]⟩
def C9(lo:Int):Nat->List D
 |0=>[]
 |n + 1=>.int lo :: C9 (lo + 1) n
theorem Q6:∀ (lo:Int) (n i:Nat),(C9 lo n)[i]?=if i < n then some (.int (lo + i)) else none
 |lo,0,i=>by simp [C9]
 |lo,n + 1,0=>by simp [C9]
 |lo,n + 1,i + 1=>by
  have:=Q6 (lo + 1) n i
  simp only [C9,List.getElem?_cons_succ,this,Nat.add_lt_add_iff_right];have e:lo + 1 + (i:Int)=lo + ((i + 1:Nat):Int):=by push_cast;omega
  rw [e]
theorem s9:∀ (lo:Int) (n:Nat),(C9 lo n).length=n
 |_,0=>rfl
 |lo,n + 1=>by simp [C9,s9 (lo + 1) n]
theorem a2I{K:PySem.W.Frag}{π α:List Addr}{H:Hp}{lo:Int}{n:Nat}:ItA K π α H (Itr lo n) ⟨C9 lo n,[]⟩:=fun π' sub=>by
 refine ⟨fun _ _=>True,⟨fun _ _ _ _ _ _=>trivial,fun _ _ _ _ _ _ _=>trivial,fun α H h i d R st ok hi=>?_,fun α H h R st ok=>?_⟩,trivial⟩
 ·have hi:(C9 lo n)[i]?=some d:=hi;rw [Q6] at hi
  split at hi
  ·rename_i hlt;cases hi;exact ⟨hlt,fun x H' ⟨e1,e2⟩=>by subst e1 e2;exact ⟨Ext.refl ..,R,.int _⟩⟩
  ·cases hi
 ·show n <= (C9 lo n).length;rw [s9];exact Nat.le_refl _
def C0(f:DE):DI:=fun δ h Q=>f δ h fun d h1=>match F3 h1 d with | some S=>Q S h1 | none=>False
def a3U(f:DA):DI:=fun δ h Q=>f δ h fun ds h1=>match ds with | [d]=>(match F3 h1 d with | some S=>Q ⟨J1 0 S.items,S.w⟩ h1 | none=>False) | _=>False
def v6(f:DA):DI:=fun δ h Q=>f δ h fun ds h1=>match ds with
 |[.int j]=>(-(2 ^ 62) <= j/\j < 2 ^ 62)/\Q ⟨C9 0 j.toNat,[]⟩ h1
 |[.int i,.int j]=>(-(2 ^ 62) <= i/\i < 2 ^ 62/\-(2 ^ 62) <= j/\j < 2 ^ 62)/\Q ⟨C9 i (j - i).toNat,[]⟩ h1
 |_=>False
section
variable {X:Cx} {tg:Expr}
theorem PI.imp{e:Expr}{t t':TI}(h:PI X tg e t)(k:∀ σ H Q,t' σ H Q->t σ H Q):PI X tg e t':=fun pins s σ H Q I q=>h pins s σ H Q I (k σ H Q q)
def c2m(K:PySem.W.Frag)(tl:TE):TI:=fun σ H R=>tl σ H fun x H1=>∃ a,x = .ref a/\(((∃ xs,SqL K H1 a xs)/\R (Itl K a) H1)\/((∃ xs,SqT K H1 a xs)/\R (Itt K a) H1))
theorem b5u{l:Expr}{tl:TE}(hl:PE X l tl):PI X tg l (c2m X.K tl):=by
 intro pins s σ H R I h;refine thn (hl pins s σ H _ I h) fun v s1 zz0=>?_;obtain ⟨x,H1,I1,r1,q1⟩:=zz0;obtain ⟨a,e,⟨⟨xs,hq⟩,q⟩ | ⟨⟨xs,hq⟩,q⟩⟩:=q1
 ·subst e;cases r1;obtain ⟨its,rv,p,hz⟩:=I1.list hq;refine wpAny_pyIter_list p.isList ?_;refine ⟨s1.heap.objs.size,[s1.heap.objs.size],_,_,H1,rfl,I1.kept (t':=s1.toks) fun b o e=>Heap.get?_push_of_some _ e,a5Z a _,⟨_,Heap.get?_push_size _ rfl,rfl,rfl⟩,fun b hb=>?_,q⟩;have e:b=s1.heap.objs.size:=by simpa using hb
  subst e;exact I1.fpOk (Nat.le_refl _) (I1.hok.fresh (Nat.le_refl _))
 ·subst e;cases r1;obtain ⟨its,rv,p,hz⟩:=I1.tuple hq;refine wpAny_pyIter_tuple (show s1.heap.IsTuple a its.toArray from p) ?_;refine ⟨s1.heap.objs.size,[s1.heap.objs.size],_,_,H1,rfl,I1.kept (t':=s1.toks) fun b o e=>Heap.get?_push_of_some _ e,a3O a _,⟨_,Heap.get?_push_size _ rfl,rfl,rfl⟩,fun b hb=>?_,q⟩;have e:b=s1.heap.objs.size:=by simpa using hb
  subst e;exact I1.fpOk (Nat.le_refl _) (I1.hok.fresh (Nat.le_refl _))
theorem y7{l:Expr}{f:DE}(hl:SE X l f):SI X tg l (C0 f):=PI.imp (b5u hl) fun σ H Q zz0=>by
 obtain ⟨π,α,δ,h,Q',R,S,f,k⟩:=zz0;refine ⟨π,α,δ,h,_,R,S,f,fun d h1 α1 H1 v1 f1 e1 R1 q1=>?_⟩
 cases q:F3 h1 d with
 |none=>rw [q] at f1;exact f1.elim
 |some Sr =>
  rw [q] at f1;obtain ⟨a,rfl,ok,⟨hu,sa⟩ | ⟨hu,sa⟩⟩:=a1G R1 q1 q
  ·exact ⟨a,rfl,.inl ⟨hu,k Sr h1 α1 H1 _ f1 e1 R1 (b4i sa) ok⟩⟩
  ·exact ⟨a,rfl,.inr ⟨hu,k Sr h1 α1 H1 _ f1 e1 R1 (b7G sa) ok⟩⟩
def b7A(K:PySem.W.Frag)(ta:TA):TI:=fun σ H R=>ta σ H fun vs H1=>∃ a,vs=[.ref a]/\(((∃ xs,SqL K H1 a xs)/\R (Ite fun H xs=>SqL K H a xs) H1)\/((∃ xs,SqT K H1 a xs)/\R (Ite fun H xs=>SqT K H a xs) H1))
theorem b0t{a:Expr}{ta:TA}{p pos:Pos}(hg:Gl X "enumerate")(hm:X.mg "enumerate" = none)(ha:PA X [a] ta)(htg:∃ es x1 pos,tg = .Tuple es x1 pos:=by exact ⟨_,_,_,rfl⟩)(hs:starEach [a] X.env=[(false,eval a X.env)]:=by rfl):PI X tg (.Call (.Name "enumerate" p) [a] [] pos) (b7A X.K ta):=by
 intro pins s σ H R I h;refine PyProof.Rows.Call_ (a0l I hg hm PyProof.Rows.boot_enumerate (PyProof.Rows.callWith_type1 (thn (ha pos pins s σ H _ I h) fun us s1 ⟨vs,H1,I1,r1,q1⟩=>?_) hs rfl));obtain ⟨a,e,⟨⟨xs,hq⟩,q⟩ | ⟨⟨xs,hq⟩,q⟩⟩:=q1
 ·subst e;obtain ⟨u,rfl,ru⟩:=T7 r1;cases ru;obtain ⟨its,rv,p,hz⟩:=I1.list hq;exact call_enumerate_list p.isList fun h' he hit _ hk=>a3a htg I1 (a8I a _) he hit hk q
 ·subst e;obtain ⟨u,rfl,ru⟩:=T7 r1;cases ru;obtain ⟨its,rv,p,hz⟩:=I1.tuple hq;exact M5 (show s1.heap.IsTuple a its.toArray from p) fun h' he hit _ hk=>a3a htg I1 (b4f a _) he hit hk q
theorem a4u{a:Expr}{n:Nat}{fs:DA}{p pos:Pos}(hg:Gl X "enumerate")(hm:X.mg "enumerate" = none)(ha:SA X [a] n fs)(htg:∃ es x1 pos,tg = .Tuple es x1 pos:=by exact ⟨_,_,_,rfl⟩)(hs:starEach [a] X.env=[(false,eval a X.env)]:=by rfl):SI X tg (.Call (.Name "enumerate" p) [a] [] pos) (a3U fs):=PI.imp (b0t hg hm ha htg hs) fun σ H Q zz0=>by
 obtain ⟨π,α,δ,h,Q',R,S,f,k⟩:=zz0;refine ⟨π,α,δ,h,_,R,S,f,fun ds h1 α1 H1 vs f1 e1 R1 q1 l1=>?_⟩
 split at f1
 ·rename_i d;obtain ⟨v,rfl,q3⟩:=q1.inv1
  cases q:F3 h1 d with
  |none=>rw [q] at f1;exact f1.elim
  |some Sr =>
   rw [q] at f1;obtain ⟨a,rfl,ok,⟨hu,sa⟩ | ⟨hu,sa⟩⟩:=a1G R1 q3 q
   ·exact ⟨a,rfl,.inl ⟨hu,k ⟨J1 0 Sr.items,Sr.w⟩ h1 α1 H1 _ f1 e1 R1 (a5j sa) ok⟩⟩
   ·exact ⟨a,rfl,.inr ⟨hu,k ⟨J1 0 Sr.items,Sr.w⟩ h1 α1 H1 _ f1 e1 R1 (a5j sa) ok⟩⟩
 ·exact f1.elim
theorem t8{a:Expr}{n:Nat}{fs:DA}{p pos:Pos}(hg:Gl X "range")(hm:X.mg "range" = none)(ha:SA X [a] n fs)(hs:starEach [a] X.env=[(false,eval a X.env)]:=by rfl)(hn:n=1:=by rfl):SI X tg (.Call (.Name "range" p) [a] [] pos) (v6 fs):=PI.imp (a6d hg hm ha hs) fun σ H Q zz0=>by
 obtain ⟨π,α,δ,h,Q',R,S,f,k⟩:=zz0;refine ⟨π,α,δ,h,_,R,S,f,fun ds h1 α1 H1 vs f1 e1 R1 q1 l1=>?_⟩
 split at f1
 ·obtain ⟨v,rfl,q3⟩:=q1.inv1
  cases q3 with
  |int=>exact ⟨_,rfl,f1.1.1,f1.1.2,k _ h1 α1 H1 _ f1.2 e1 R1 a2I Src.ok_nil⟩
 ·subst hn;cases l1
 ·exact f1.elim
theorem a5Q{a b:Expr}{n:Nat}{fs:DA}{p pos:Pos}(hg:Gl X "range")(hm:X.mg "range" = none)(ha:SA X [a,b] n fs)(hs:starEach [a,b] X.env=[(false,eval a X.env),(false,eval b X.env)]:=by rfl)(hs2:starEach [b] X.env=[(false,eval b X.env)]:=by rfl)(hn:n=2:=by rfl):SI X tg (.Call (.Name "range" p) [a,b] [] pos) (v6 fs):=PI.imp (a5O hg hm ha hs hs2) fun σ H Q zz0=>by
 obtain ⟨π,α,δ,h,Q',R,S,f,k⟩:=zz0;refine ⟨π,α,δ,h,_,R,S,f,fun ds h1 α1 H1 vs f1 e1 R1 q1 l1=>?_⟩
 split at f1
 ·subst hn;cases l1
 ·obtain ⟨v,v',rfl,q3,q4⟩:=q1.inv2
  cases q3 with
  |int i =>
   cases q4 with
   |int=>exact ⟨_,_,rfl,f1.1,k _ h1 α1 H1 _ f1.2 e1 R1 a2I Src.ok_nil⟩
 ·exact f1.elim
end
end DL
namespace DL
open PySem PySem.Spec L2
def dCB(p:PN)(f:DA):DE:=fun δ h Q=>f δ h fun ds h1=>p ds h1 Q
theorem a4Z{K:PySem.W.Frag}{p:PN}{n:Nat}{f:DA}{σ:L2.St}{H:Hp}{Q:VK}(g:LE K (dCB p f) σ H Q):LA K n f σ H fun vs H1=>rN K p vs H1 Q:=by
 obtain ⟨π,α,δ,h,Q',R,S,f,k⟩:=g;exact ⟨π,α,δ,h,_,R,S,f,fun ds h1 α1 H1 vs f1 e1 R1 q1 l1=>⟨π,α1,h1,ds,Q',R1,q1,f1,fun d h' α' H' v a b c d'=>k d h' α' H' v a (e1.trans b) c d'⟩⟩
section
variable {X:Cx} {x:Str} {p pos:Pos} {e:Expr} {es:List Expr} {n:Nat} {f:DA} {id T:String} {r:PN}
theorem k7(hc:CallR X (.builtin id) (rN X.K r))(hg:Gl X x)(hm:X.mg x=none)(hv:bootBuiltins x=some (.builtin id))(ha:SA X (e :: es) n f)(hn:x ≠ "__name__":=by decide)(hdb:(x == ("__debug__":Str))=false:=by decide)
  (he:starEach (e :: es) X.env=(false,eval e X.env) :: starEach es X.env:=by rfl) (hpl:(backTo pos (starEach es X.env)).any (·.1)=false:=by rfl):SE X (.Call (.Name x p) (e :: es) [] pos) (dCB r f) :=
 PE.imp (a9O hc hg hm hv ha hn hdb he hpl) fun _ _ _ g=>a4Z g
theorem J7(hc:CallR X (.type T) (rN X.K r))(hg:Gl X x)(hm:X.mg x=none)(hv:bootBuiltins x=some (.type T))(ha:SA X (e :: es) n f)(hn:x ≠ "__name__":=by decide)(hdb:(x == ("__debug__":Str))=false:=by decide)
  (he:starEach (e :: es) X.env=(false,eval e X.env) :: starEach es X.env:=by rfl) (hpl:(backTo pos (starEach es X.env)).any (·.1)=false:=by rfl):SE X (.Call (.Name x p) (e :: es) [] pos) (dCB r f) :=
 PE.imp (a1f hc hg hm hv ha hn hdb he hpl) fun _ _ _ g=>a4Z g
def a3V(h:Hh):D->Option Nat
 |.str x=>if x.length <= 16777216 then some x.length else none
 |d=>(G3 h d).map List.length
def H9:PN:=fun ds h Q=>match ds with | [d]=>(match a3V h d with | some n=>Q (.int n) h | none=>False) | _=>False
theorem y6:CallR X (.builtin "len") (rN X.K H9):=CallR.imp b0h fun xs H Q zz0=>by
 obtain ⟨π,α,h,ds,Q',R,rs,f,k⟩:=zz0;unfold H9 at f
 split at f
 ·rename_i d;obtain ⟨v,rfl,rd⟩:=rs.inv1
  cases q:a3V h d with
  |none=>rw [q] at f;exact f.elim
  |some n =>
   rw [q] at f;refine ⟨v,n,rfl,?_,k _ h α H _ f (Ext.refl ..) R (.int _)⟩
   by_cases z:∃ x,d = .str x
   ·obtain ⟨x,rfl⟩:=z;cases rd;have q:(if x.length <= 16777216 then some x.length else none)=some n:=q
    split at q
    ·rename_i hl;cases q;exact ⟨by rw [sizeLine_eq];exact hl,rfl⟩
    ·cases q
   ·have q':(G3 h d).map List.length=some n:=by
     cases d with
     |str x=>exact absurd ⟨x,rfl⟩ z
     |_=>exact q
    cases w:G3 h d with
    |none=>rw [w] at q';cases q'
    |some ys =>
     rw [w] at q'
     cases q'
     obtain ⟨p,us,rfl,b,c⟩:=a0D R rd w
     rcases b with b | b
     ·exact .inl ⟨us,b,c.length⟩
     ·exact .inr ⟨us,b,c.length⟩
 ·exact f.elim
def a2l:PN:=fun ds h Q=>match ds with | [d]=>(match G3 h d with | some xs=>Q (.tup xs) h | none=>False) | _=>False
theorem a3j:CallR X (.type "tuple") (rN X.K a2l):=CallR.imp a0U fun xs H Q zz0=>by
 obtain ⟨π,α,h,ds,Q',R,rs,f,k⟩:=zz0;unfold a2l at f
 split at f
 ·rename_i d;obtain ⟨v,rfl,rd⟩:=rs.inv1
  cases w:G3 h d with
  |none=>rw [w] at f;exact f.elim
  |some ys =>
   rw [w] at f
   by_cases z:∃ x,d = .tup x
   ·obtain ⟨x,rfl⟩:=z;cases w
    cases rd with
    |tup t r=>exact ⟨_,_,rfl,.inr ⟨t.sq,k _ h α H _ f (Ext.refl ..) R (.tup t r)⟩⟩
   ·have w':A4 h d=some ys:=by
     cases d with
     |tup x=>exact absurd ⟨x,rfl⟩ z
     |lst x=>exact w
     |scr x=>exact w
     |ref x=>exact w
     |_=>cases w
    obtain ⟨p,us,rfl,b,c⟩:=P3 R rd w';refine ⟨p,us,rfl,.inl ⟨b,fun l hl=>?_⟩⟩;have e2:Ext α H α (upd H l (.tup us)):=Ext.new hl;exact k _ h α _ _ f e2 (R.new hl) (.tup ⟨R.out hl,R.outP hl,j7⟩ (c.mono e2))
 ·exact f.elim
def a4Y(f:DA):DN:=fun δ h Q=>f δ h fun ds h1=>match ds with | [d]=>(match G3 h1 d with | some xs=>Q xs h1 | none=>False) | _=>False
theorem b2I(hg:Gl X "list")(hm:X.mg "list" = none)(ha:SA X (e :: es) n f)(he:starEach (e :: es) X.env=(false,eval e X.env) :: starEach es X.env:=by rfl)(hpl:(backTo pos (starEach es X.env)).any (·.1)=false:=by rfl) :
  SN X (.Call (.Name "list" p) (e :: es) [] pos) (a4Y f):=PE.imp (a1f a1L hg hm PyProof.Rows.boot_list ha (by decide) (by decide) he hpl) fun σ H Q ⟨π,α,δ,h,Q',R,S,f,k⟩=>by
 refine ⟨π,α,δ,h,_,R,S,f,fun ds h1 α1 H1 vs f1 e1 R1 q1 l1=>?_⟩
 split at f1
 ·rename_i d;obtain ⟨v,rfl,rd⟩:=q1.inv1
  cases w:G3 h1 d with
  |none=>rw [w] at f1;exact f1.elim
  |some ys =>
   rw [w] at f1;obtain ⟨p,us,rfl,b,c⟩:=a0D R1 rd w;exact ⟨p,us,rfl,b,fun l hl=>LN.last (h:=h) k f1 e1 R1 c hl⟩
 ·exact f1.elim
def a9B:PN:=fun ds h Q=>match ds with | [.int i]=>Q (.int i) h | [.bl b]=>Q (.int (if b then 1 else 0)) h | _=>False
theorem a3T:CallR X (.type "int") (rN X.K a9B):=CallR.imp a6o fun xs H Q zz0=>by
 obtain ⟨π,α,h,ds,Q',R,rs,f,k⟩:=zz0;unfold a9B at f
 split at f
 ·obtain ⟨v,rfl,rd⟩:=rs.inv1;cases rd;exact .inl ⟨_,rfl,k _ h α H _ f (Ext.refl ..) R (.int _)⟩
 ·obtain ⟨v,rfl,rd⟩:=rs.inv1;cases rd;exact .inr ⟨_,rfl,k _ h α H _ f (Ext.refl ..) R (.int _)⟩
 ·exact f.elim
def b4A:PN:=fun ds h Q=>match ds with | [.int i,.int j]=>Q (.int (if j < i then j else i)) h | _=>False
def b7C:PN:=fun ds h Q=>match ds with | [.int i,.int j]=>Q (.int (if j > i then j else i)) h | _=>False
def c3p:PN:=fun ds h Q=>match ds with | [.int i]=>Q (.int (if i < 0 then -i else i)) h | _=>False
theorem b0z(hc:X.calm=true):CallR X (.builtin "min") (rN X.K b4A):=CallR.imp (a5S hc) fun xs H Q zz0=>by
 obtain ⟨π,α,h,ds,Q',R,rs,f,k⟩:=zz0;unfold b4A at f
 split at f
 ·obtain ⟨v,w,rfl,rd,re⟩:=rs.inv2
  cases rd;cases re;exact ⟨_,_,rfl,k _ h α H _ f (Ext.refl ..) R (.int _)⟩
 ·exact f.elim
theorem b6m(hc:X.calm=true):CallR X (.builtin "max") (rN X.K b7C):=CallR.imp (a6y hc) fun xs H Q zz0=>by
 obtain ⟨π,α,h,ds,Q',R,rs,f,k⟩:=zz0;unfold b7C at f
 split at f
 ·obtain ⟨v,w,rfl,rd,re⟩:=rs.inv2
  cases rd;cases re;exact ⟨_,_,rfl,k _ h α H _ f (Ext.refl ..) R (.int _)⟩
 ·exact f.elim
def c0t:PN:=fun ds h Q=>∃ (d:D) (ns:List Int),ds=[d]/\A4 h d=some (ns.map D.int)/\Q (.int ns.sum) h
theorem b5V(hc:X.calm=true):CallR X (.builtin "sum") (rN X.K c0t):=CallR.imp (a1b hc) fun xs H Q zz0=>by
 obtain ⟨π,α,h,ds,Q',R,rs,f,k⟩:=zz0;obtain ⟨d,ns,rfl,w,f⟩:=f;obtain ⟨v,rfl,rd⟩:=rs.inv1;obtain ⟨p,us,rfl,b,c⟩:=P3 R rd w
 cases c.ints_inv
 exact ⟨p,ns,rfl,b,k _ h α H _ f (Ext.refl ..) R (.int _)⟩
end
section
variable {X:Cx} {o e:Expr} {fo fe:DE} {fs:DA} {n:Nat} {apos cpos:Pos}
def b5h(fo:DE):DE:=fun δ h Q=>fo δ h fun d h1=>match d with | .int i=>Q (.int (Builtin.Int.intBits i:Nat)) h1 | _=>False
theorem b3U(ho:SE X o fo)(hbase:attributeBase o "bit_length" X.env (eval o X.env)=eval o X.env:=by rfl)(hline:(apos.endLine == cpos.line)=true:=by rfl):SE X (.Call (.Attribute o "bit_length" apos) [] [] cpos) (b5h fo) :=
 PE.imp (a9U PySem.F.plainAttrs_int PySem.F.slot_int_bit_length PySem.F.type_int_bit_length b1J ho hbase hline) fun σ H Q zz0=>by
  obtain ⟨π,α,δ,h,Q',R,S,f,k⟩:=zz0;refine ⟨π,α,δ,h,_,R,S,f,fun d h1 α1 H1 v1 f1 e1 R1 q1=>?_⟩
  cases q1 with
  |int i=>exact ⟨rfl,i,rfl,rfl,k _ h1 α1 H1 _ f1 e1 R1 (.int _)⟩
  |_=>exact f1.elim
def B7(fo:DE)(fs:DA):DE:=fun δ h Q=>fo δ h fun d h1=>match d with
 |.ref i=>(match h1[i]? with
  |some (.lst _)=>fs δ h1 fun ds h2=>(match ds,h2[i]? with
   |[v],some (.lst ys)=>ys.length < 16777216/\Q .non (h2.set i (.lst (ys ++ [v])))
   |_,_=>False)
  |_=>False)
 |_=>False
theorem b3H{K:PySem.W.Frag}{π α:List Addr}{H:Hp}{h:Hh}(R:HRel ⟨K,π⟩ α H h){i:Nat}{a:Addr}{xs:List D}(hp:α[i]?=some a)(w:h[i]?=some (.lst xs)):∃ us,H a=some (.lst us)/\RelDs ⟨K,π⟩ α H xs us:=by
 obtain ⟨p,us,e1,e2,e3⟩:=R.lst w;rw [hp] at e1;cases e1;exact ⟨us,e2,e3⟩
theorem v9(ho:SE X o fo)(ha:SA X [e] n fs)(hbase:attributeBase o "append" X.env (eval o X.env)=eval o X.env:=by rfl)
  (hfew:((backTo cpos (starEach [e] X.env)).all (fun x=>!x.1) && (backToKw cpos (keywordEach [] X.env)).all (fun x=>x.1.isSome)
   && decide ([e].length + ([]:List Keyword).length + (if ([]:List Keyword).isEmpty then 0 else 1) < 30))=true:=by rfl)
  (hline:(apos.endLine == cpos.line)=true:=by rfl) (hs:starEach [e] X.env=(false,eval e X.env) :: starEach [] X.env:=by rfl) (hplain:(backTo cpos (starEach [] X.env)).any (·.1)=false:=by rfl) :
  SE X (.Call (.Attribute o "append" apos) [e] [] cpos) (B7 fo fs) :=
 PE.imp (c0s PySem.F.plainAttrs_list PySem.F.slot_list_append PySem.F.type_list_append a6l ho ha hbase hfew hline hs hplain) fun σ H Q zz0=>by
  obtain ⟨π,α,δ,h,Q',R,S,f,k⟩:=zz0;refine ⟨π,α,δ,h,_,R,S,f,fun d h1 α1 H1 v1 f1 e1 R1 q1=>?_⟩
  cases q1 with
  |@ref i a hp =>
   dsimp only at f1
   cases w:h1[i]? with
   |none=>rw [w] at f1;exact f1.elim
   |some ob =>
    rw [w] at f1
    cases ob with
    |lst xs =>
     obtain ⟨us,e2,e3⟩:=b3H R1 hp w;refine ⟨.inl ⟨rfl,us,SqL.of e2⟩,π,α1,δ,h1,_,R1,S.mono e1,f1,fun ds h2 α2 H2 vs f2 e2 R2 q2 l2=>?_⟩
     split at f2
     ·rename_i v ys w2;obtain ⟨u,rfl,q9⟩:=q2.inv1;have hp2:=e2.get hp;obtain ⟨us2,g2,g3⟩:=b3H R2 hp2 w2;have e4:Ext α2 H2 α2 (upd H2 a (.lst (us2 ++ [u]))):=Ext.write (List.mem_of_getElem? hp2);exact ⟨a,us2,u,rfl,rfl,g2,by rw [<- g3.length,sizeLine_eq];exact f2.1,k _ _ α2 _ _ f2.2 (e1.trans (e2.trans e4)) (R2.write hp2 (.lst j7 ((g3.snoc q9).mono e4))) .non⟩
     ·exact f2.elim
    |_=>exact f1.elim
  |_=>exact f1.elim
def c0E(fo:DE):DE:=fun δ h Q=>fo δ h fun d h1=>match d with
 |.ref i=>(match h1[i]? with
  |some (.lst xs)=>(match xs[xs.length - 1]? with | some y=>Q y (h1.set i (.lst xs.dropLast)) | none=>False)
  |_=>False)
 |_=>False
theorem b5t(ho:SE X o fo)(hbase:attributeBase o "pop" X.env (eval o X.env)=eval o X.env:=by rfl)(hline:(apos.endLine == cpos.line)=true:=by rfl):SE X (.Call (.Attribute o "pop" apos) [] [] cpos) (c0E fo) :=
 PE.imp (a9U PySem.F.plainAttrs_list PySem.F.slot_list_pop PySem.F.type_list_pop b5L ho hbase hline) fun σ H Q zz0=>by
  obtain ⟨π,α,δ,h,Q',R,S,f,k⟩:=zz0;refine ⟨π,α,δ,h,_,R,S,f,fun d h1 α1 H1 v1 f1 e1 R1 q1=>?_⟩
  cases q1 with
  |@ref i a hp =>
   dsimp only at f1
   cases w:h1[i]? with
   |none=>rw [w] at f1;exact f1.elim
   |some ob =>
    rw [w] at f1
    cases ob with
    |lst xs =>
     dsimp only at f1;obtain ⟨us,e2,e3⟩:=b3H R1 hp w
     cases y:xs[xs.length - 1]? with
     |none=>rw [y] at f1;exact f1.elim
     |some z =>
      rw [y] at f1;obtain ⟨u,g1,g2⟩:=e3.get y;have e4:Ext α1 H1 α1 (upd H1 a (.lst us.dropLast)):=Ext.write (List.mem_of_getElem? hp);exact ⟨.inl ⟨rfl,us,SqL.of e2⟩,a,us,u,rfl,rfl,e2,by rw [<- e3.length];exact g1,k _ _ α1 _ _ f1 (e1.trans e4) (R1.write hp (.lst j7 (e3.dropLast.mono e4))) (g2.mono e4)⟩
    |_=>exact f1.elim
  |_=>exact f1.elim
def c1P(fo:DE):DE:=fun δ h Q=>fo δ h fun d h1=>match d with
 |.ref i=>(match h1[i]? with | some (.lst _)=>Q .non (h1.set i (.lst [])) | _=>False)
 |_=>False
end
abbrev DSp:=List D->Hh->DK->Prop
inductive spD(K:PySem.W.Frag)(n:Nat)(g:DSp)(vs:List V)(H:Hp)(Q:VK)(X9:XK):Prop
 |mk (π:List Addr) (α:List Addr) (h:Hh) (ds:List D) (Q':DK):HRel ⟨K,π⟩ α H h->RelDs ⟨K,π⟩ α H ds vs->ds.length=n->g ds h Q'->(∀ d h' α' H' v,Q' d h'->Ext α H α' H'->HRel ⟨K,π⟩ α' H' h'->RelD ⟨K,π⟩ α' H' d v->Q v H')->spD K n g vs H Q X9
def j8(g:DSp)(f:DA):DE:=fun δ h Q=>f δ h fun ds h1=>g ds h1 Q
section
variable {X:Cx} {k m:Nat} {ps:List Str} {g:DSp} {x:Str} {p pos:Pos} {e:Expr} {es:List Expr} {n:Nat} {f:DA}
theorem f8(c:Cal X.prog X.w X.K X.mg X.base k x ps (spD X.K m g))(hr:Room k X.A)(hg:Gl X x)(ha:SA X (e :: es) n f)(hn:n=m:=by rfl)(hdb:(x == ("__debug__":Str))=false:=by decide)
  (he:starEach (e :: es) X.env=(false,eval e X.env) :: starEach es X.env:=by rfl) (hpl:(backTo pos (starEach es X.env)).any (·.1)=false:=by rfl):SE X (.Call (.Name x p) (e :: es) [] pos) (j8 g f) :=
 PE.imp (b6u c hr hg ha hdb he hpl) fun σ H Q zz0=>by
  obtain ⟨π,α,δ,h,Q',R,S,f,k⟩:=zz0;refine ⟨π,α,δ,h,_,R,S,f,fun ds h1 α1 H1 vs f1 e1 R1 q1 l1=>?_⟩;show spD X.K m g (vs ++ []) H1 Q E0;rw [List.append_nil];exact ⟨π,α1,h1,ds,Q',R1,q1,l1.trans hn,f1,fun d h' α' H' v a b c d'=>k d h' α' H' v a (e1.trans b) c d'⟩
end
def i7(n:Nat)(b:DS):DSp:=fun ds h Q=>b { nx:=fun _ h'=>Q .non h',rt:=Q } (ds.map some ++ List.replicate (n - ds.length) none) h
theorem a0S{K:KP}{α:List Addr}{H:Hp}{ds:List D}{vs:List V}{N:List Str}(r:RelDs K α H ds vs):RelS K α H (ds.map some ++ List.replicate (N.length - ds.length) none) (L2.start N vs):=by
 refine ⟨by unfold L2.start;simp [r.length],fun i d e=>?_⟩
 by_cases hi:i < ds.length
 ·rw [List.getElem?_append_left (by simpa using hi),List.getElem?_map] at e
  cases q:ds[i]? with
  |none=>rw [q] at e;cases e
  |some z =>
   rw [q] at e;cases e;obtain ⟨u,h1,h2⟩:=r.get q;refine ⟨u,?_,h2⟩;unfold L2.start;rw [List.getElem?_append_left (by rw [List.length_map,<- r.length];exact hi),List.getElem?_map,h1];rfl
 ·rw [List.getElem?_append_right (by simpa using hi),List.getElem?_replicate] at e
  split at e <;> cases e
section
variable {P:Program} {w:World} {K:PySem.W.Frag} {mg:Str->Option Value} {base:Heap}
theorem l8{x qual:Str}{st:Stmt}{f:Addr}{fd:FuncData}{N ps:List Str}{k:Nat}{b:DS}{g:DSp}(F:Fun K x qual st f fd)(S:i4 N ps (c7 st))
  (hb:∀ (cdv:Value) (A:Around) (outer:List Env) (s:Shared) (H:Hp) (E:XK),Room k (A.deeper (PyProof.Rows.envOfC qual (c7 st) s.heap.objs.size f cdv))->SSs (a2Q CX0 P w K mg base N qual (c7 st) f cdv A outer s H E).nox (j3 st) b)
  (hg:∀ ds h Q,g ds h Q->i7 N.length b ds h Q):l9 P w K mg base CX0 (k + 1) f fd ps (spD K ps.length g):=by
 refine F.ok S (fun vs H Q E h=>?_) fun cdv A outer s H vs Q E hr h=>?_
 ·obtain ⟨π,α,h,ds,Q',R,r,l,_⟩:=h;rw [<- r.length,l]
 ·obtain ⟨π,α,h,ds,Q',R,r,l,q,kk⟩:=h;refine ⟨_,hb cdv A outer s H E hr,π,α,_,h,{ nx:=fun _ h'=>Q' .non h',rt:=Q' },R,a0S r,hg ds h Q' q,⟨fun _ h' α' H' σ' a b c _=>kk .non h' α' H' .non a b c .non,fun d h' α' H' v a b c d'=>kk d h' α' H' v a b c d',fun _ _ _ _ _ a _ _ _=>a.elim,fun _ _ _ _ _ a _ _ _=>a.elim,fun _ _ _ _ _ _ _ a _ _ _=>a.elim⟩⟩
end
end DL
namespace DL
open PySem PySem.Spec L2
def lsP(h:Hh):D->Option (List D)
 |.lst xs=>some xs
 |.ref i=>match h[i]? with | some (.lst xs)=>some xs | _=>none
 |_=>none
theorem a7R{K:KP}{α:List Addr}{H:Hp}{h:Hh}(R:HRel K α H h){d:D}{v:V}{xs:List D}(r:RelD K α H d v)(e:lsP h d=some xs):∃ p us,v = .ref p/\H p=some (.lst us)/\RelDs K α H xs us:=by
 cases r with
 |lst t r=>cases e;exact ⟨_,_,rfl,t.2.2,r⟩
 |@ref i a hp =>
  have e:(match h[i]? with | some (.lst xs)=>some xs | _=>none)=some xs:=e
  cases q:h[i]? with
  |none=>rw [q] at e;cases e
  |some o =>
   rw [q] at e
   cases o with
   |lst ys =>
    cases e;obtain ⟨p,us,e1,e2,e3⟩:=R.lst q;rw [hp] at e1;cases e1;exact ⟨_,us,rfl,e2,e3⟩
   |_=>cases e
 |_=>cases e
def m9:P2:=fun x y h Q=>match lsP h x,lsP h y with
 |some xs,some ys=>xs.length + ys.length <= 16777216/\Q (.lst (xs ++ ys)) h
 |_,_=>b9T x y h Q
section
variable {X:Cx}
theorem j1:OpR X (binaryOp .Add) (r2 X.K m9):=OpR.imp (op_cat.or b5H) fun x y H Q zz0=>by
 obtain ⟨π,α,h,d,e,Q',R,r1,r2,f,k⟩:=zz0;unfold m9 at f
 cases w:lsP h d with
 |none=>rw [w] at f;exact .inr ⟨π,α,h,d,e,Q',R,r1,r2,f,k⟩
 |some xs =>
  cases w':lsP h e with
  |none=>rw [w,w'] at f;exact .inr ⟨π,α,h,d,e,Q',R,r1,r2,f,k⟩
  |some ys =>
   rw [w,w'] at f;obtain ⟨p,us,rfl,b,c⟩:=a7R R r1 w;obtain ⟨p',us',rfl,b',c'⟩:=a7R R r2 w';refine .inl ⟨p,p',us,us',rfl,rfl,b,b',by rw [<- c.length,<- c'.length,sizeLine_eq];exact f.1,fun l hl=>?_⟩;have e2:Ext α H α (upd H l (.lst (us ++ us'))):=Ext.new hl;exact k _ h α _ _ f.2 e2 (R.new hl) (.lst ⟨R.out hl,R.outP hl,j7⟩ ((c.append c').mono e2))
def c2E(fa fb:DE):DN:=fun δ h Q=>fa δ h fun x h1=>fb δ h1 fun y h2=>match lsP h2 x,lsP h2 y with
 |some xs,some ys=>xs.length + ys.length <= 16777216/\Q (xs ++ ys) h2
 |_,_=>False
def c3e(fa fb:DE):DN:=fun δ h Q=>fa δ h fun x h1=>fb δ h1 fun y h2=>match lsP h2 x,y with
 |some xs,.int n=>(-(2 ^ 63) <= n/\n < 2 ^ 63/\xs.length * n.toNat <= 16777216)/\Q (List.replicate n.toNat xs).flatten h2
 |_,_=>False
theorem b2i:OpR X (binaryOp .Mult) (rI IntMulOk fun i j=>.int (i * j)):=opI fun _ _ _ _ _ _ _ hc q=>PyProof.Rows.mul_int q hc
def W8:P2:=pI IntMulOk fun i j=>i * j
theorem C5:OpR X (binaryOp .Mult) (r2 X.K W8):=a1E b2i
def c3r:P2:=fun x y h Q=>match x,y with
 |.int i,.int j=>IntMulOk i j/\Q (.int (i * j)) h
 |.tup xs,.int n=>(xs ≠ []/\xs.length <= 10/\1 <= n/\n < 100)/\Q (.tup (List.replicate n.toNat xs).flatten) h
 |x,.int n=>(match lsP h x with | some xs=>(-(2 ^ 63) <= n/\n < 2 ^ 63/\xs.length * n.toNat <= 16777216)/\Q (.lst (List.replicate n.toNat xs).flatten) h | none=>False)
 |_,_=>False
def dSl(fe:DE)(fl fh:DO):DE:=fun δ h Q=>fe δ h fun d h1=>fl δ h1 fun l h2=>fh δ h2 fun u h3=>match d with
 |.tup xs=>Q (.tup (a0I xs l u)) h3
 |d=>match A4 h3 d with | some xs=>Q (.lst (a0I xs l u)) h3 | none=>False
theorem a3h{e:Expr}{fe:DE}{lo hi:Option Expr}{fl fh:DO}{pos p2:Pos}(he:SE X e fe)(hl:SO X lo fl)(hu:SO X hi fh):SE X (.Subscript e (.Slice lo hi none p2) pos) (dSl fe fl fh):=PE.imp (a9k (sl_tupD.or b4q) he hl hu) fun σ H Q zz0=>by
 obtain ⟨π,α,δ,h,Q',R,S,f,k⟩:=zz0;refine ⟨π,α,δ,h,_,R,S,f,fun d h1 α1 H1 v1 f1 e1 R1 q1=>?_⟩;refine ⟨π,α1,δ,h1,_,R1,S.mono e1,f1,fun l h2 α2 H2 f2 e2 R2=>?_⟩;refine ⟨π,α2,δ,h2,_,R2,S.mono (e1.trans e2),f2,fun u h3 α3 H3 f3 e3 R3=>?_⟩;have q3:=(q1.mono e2).mono e3
 split at f3
 ·cases q3 with
  |@tup a us ds t r =>
   refine .inl ⟨a,us,rfl,t.sq,fun z=>?_,fun p hp=>?_⟩
   ·have c:=a2a r l u;rw [z] at c;exact k _ h3 α3 H3 _ f3 (e1.trans (e2.trans e3)) R3 (.tup t c)
   ·have e4:Ext α3 H3 α3 (upd H3 p (.tup (S4 us l u))):=Ext.new hp;exact k _ h3 α3 _ _ f3 (e1.trans (e2.trans (e3.trans e4))) (R3.new hp) (.tup ⟨R3.out hp,R3.outP hp,j7⟩ ((a2a r l u).mono e4))
 ·split at f3
  ·rename_i xs w;obtain ⟨p,us,rfl,b,c⟩:=P3 R3 q3 w;refine .inr ⟨p,us,rfl,b,fun l' hl=>?_⟩;have e4:Ext α3 H3 α3 (upd H3 l' (.lst (S4 us l u))):=Ext.new hl;exact k _ h3 α3 _ _ f3 (e1.trans (e2.trans (e3.trans e4))) (R3.new hl) (.lst ⟨R3.out hl,R3.outP hl,j7⟩ ((a2a c l u).mono e4))
  ·exact f3.elim
def c1a(fo:DE)(fs:DA):DE:=fun δ h Q=>fo δ h fun d h1=>match d with
 |.ref i=>(match h1[i]? with
  |some (.lst _)=>fs δ h1 fun ds h2=>(match ds,h2[i]? with
   |[v],some (.lst ys)=>(match lsP h2 v with | some zs=>ys.length + zs.length <= 16777216/\Q .non (h2.set i (.lst (ys ++ zs))) | none=>False)
   |_,_=>False)
  |_=>False)
 |_=>False
def a0N(h:Hh):D->Option String
 |.non=>some "NoneType"
 |.bl _=>some "bool"
 |.int _=>some "int"
 |.str _=>some "str"
 |.tup _=>some "tuple"
 |.lst _=>some "list"
 |.ref i=>match h[i]? with | some (.lst _)=>some "list" | some (.dT none _)=>some "dict" | some (.dK _)=>some "dict" | _=>none
 |_=>none
def j5(t T:String):Bool:=t == T || (t == "bool" && T == "int")
def c1i(T:String)(fa:DE):DE:=fun δ h Q=>fa δ h fun d h1=>match a0N h1 d with | some t=>Q (.bl (j5 t T)) h1 | none=>False
def a1y:D->Bool
 |.non=>true
 |.bl _=>true
 |.int _=>true
 |.str _=>true
 |_=>false
def eqF:D->D->Bool
 |.non,.non=>true
 |.bl a,.bl b=>a == b
 |.bl a,.int b=>(if a then 1 else 0) == b
 |.int a,.bl b=>a == (if b then 1 else 0)
 |.int a,.int b=>a == b
 |.str a,.str b=>a == b
 |_,_=>false
def inF(x:D)(xs:List D):Bool:=xs.any fun y=>eqF y x
theorem a2E{K:KP}{α:List Addr}{H:Hp}{d:D}{v:V}(r:RelD K α H d v):P7 v=a1y d:=by cases r <;> rfl
theorem a1w{K:KP}{α:List Addr}{H:Hp}:∀ {ds:List D} {vs:List V},RelDs K α H ds vs->vs.all P7=ds.all a1y
 |_,_,.nil=>rfl
 |_,_,.cons r t=>by rw [List.all_cons,List.all_cons,a2E r,a1w t]
theorem b2X{K:KP}{α:List Addr}{H:Hp}{d e:D}{v u:V}(r:RelD K α H d v)(s:RelD K α H e u):eqV v u=eqF d e:=by
 cases r <;> cases s <;> rfl
theorem a5s{K:KP}{α:List Addr}{H:Hp}{d:D}{v:V}(r:RelD K α H d v):∀ {ds:List D} {vs:List V},RelDs K α H ds vs->inV v vs=inF d ds
 |_,_,.nil=>rfl
 |_,_,.cons s t=>by
  have:=a5s r t
  unfold inV inF at this ⊢;rw [List.any_cons,List.any_cons,this,b2X s r]
def pIn(neg:Bool):P2:=fun x y h Q=>match G3 h y with
 |some xs=>(a1y x && xs.all a1y)=true/\Q (.bl (if neg then !inF x xs else inF x xs)) h
 |none=>False
theorem c0c{neg:Bool}{x y:V}{H:Hp}{Q:VK}(g:r2 X.K (pIn neg) x y H Q):rIn X.K neg x y H Q:=by
 obtain ⟨π,α,h,d,e,Q',R,r1,r2,f,k⟩:=g;unfold pIn at f
 split at f
 ·rename_i xs w;obtain ⟨p,us,rfl,b,c⟩:=a0D R r2 w;obtain ⟨f1,f2⟩:=f;rw [Bool.and_eq_true] at f1;refine ⟨p,us,rfl,b,by rw [a2E r1];exact f1.1,by rw [a1w c];exact f1.2,k _ h α H _ f2 (Ext.refl ..) R ?_⟩;rw [a5s r1 c];exact .bl _
 ·exact f.elim
theorem b4U:OpR X (compareOp .In) (r2 X.K (pIn false)):=OpR.imp a5T fun _ _ _ _ g=>c0c g
end
end DL
namespace DL
open PySem PySem.Spec L2
section
variable {X:Cx}
def a4n:List D->Option (List Int)
 |[]=>some []
 |.int i :: r=>(a4n r).map (i :: ·)
 |_ :: _=>none
def pLt:P2:=fun x y h Q=>match x,y with
 |.int i,.int j=>Q (.bl (decide (i < j))) h
 |.tup a,.tup b=>(match a4n a,a4n b with | some ns,some ms=>Q (.bl (HT.lexLt ns ms)) h | _,_=>False)
 |.str a,.str b=>Q (.bl (decide (a.cps.toList < b.cps.toList))) h
 |_,_=>False
def a2T:D->Option Key
 |.int i=>some (.inl i)
 |.str x=>some (.inr x)
 |_=>none
def lkG(kvs:List (Key×Int))(k:Key):Option Int:=(kvs.find? fun kv=>decide (kv.1=k)).map (·.2)
def b8t(kvs:List (Key×Int))(fi:DE):DE:=fun δ h Q=>fi δ h fun d h1=>match (a2T d).bind fun k=>lkG kvs k with | some v=>Q (.int v) h1 | none=>False
theorem b2t{K:KP}{α:List Addr}{H:Hp}{d:D}{v:V}{k:Key}(r:RelD K α H d v)(e:a2T d=some k):v=kV k:=by
 cases r <;> cases e <;> rfl
theorem a2X(kvs:List (Key×Int))(k:Key):G0 (kvs.map fun p=>(p.1,V.int p.2)) k=(lkG kvs k).map V.int:=by
 unfold G0 lkG;rw [List.find?_map];rw [Option.map_map,Option.map_map];rfl
theorem a5C{x:Str}{kvs:List (Key×Int)}{i:Expr}{fi:DE}{p pos:Pos}(hg:Gl X x)(hk:∃ a,X.mg x=some (.ref a)/\a4R X.prog X.w X.K a (kvs.map fun p=>(p.1,V.int p.2)))(hi:SE X i fi)(hs:b0b i:=by exact fun _ _=>rfl)(hd:(x == ("__debug__":Str))=false:=by decide) :
  SE X (.Subscript (.Name x p) i pos) (b8t kvs fi):=let ⟨_,hm,hk⟩:=hk;PE.imp (b1P hg hm hk hi hs hd) fun σ H Q ⟨π,α,δ,h,Q',R,S,f,k⟩=>by
 refine ⟨π,α,δ,h,_,R,S,f,fun d h1 α1 H1 v1 f1 e1 R1 q1=>?_⟩
 cases w:a2T d with
 |none=>rw [w] at f1;exact f1.elim
 |some kk =>
  rw [w] at f1;have f1:(match lkG kvs kk with | some v=>Q' (.int v) h1 | none=>False):=f1
  cases w2:lkG kvs kk with
  |none=>rw [w2] at f1;exact f1.elim
  |some v =>
   rw [w2] at f1;exact ⟨kk,.int v,b2t q1 w,by rw [a2X,w2];rfl,k _ h1 α1 H1 _ f1 e1 R1 (.int _)⟩
def c1n(f:DA):DI:=fun δ h Q=>f δ h fun ds h1=>match ds with | [d]=>(match d with | .tup _=>False | d=>match F3 h1 d with | some S=>Q ⟨J1 1 S.items,S.w⟩ h1 | none=>False) | _=>False
end
end DL
namespace Att
open PySem PySem.W PySem.Calls PyProof.Rows
theorem X3:∀ (ns:List Int) (x:Int),x ∈ ns->Builtin.Int.intBits x <= WData.weightAll (ns.map WData.int)
 |n :: r,x,h=>by
  rw [List.map_cons];show _ <= WData.weight (.int n) + 1 + WData.weightAll (r.map WData.int)
  rcases List.mem_cons.mp h with rfl | h
  ·have e:WData.weight (.int x)=Builtin.Int.intBits x:=rfl;rw [e];omega
  ·have:=X3 r x h
   omega
theorem a6t{ns:List Int}(h:WData.layableAll [WData.list (ns.map WData.int)]=true):∀ x ∈ ns,Builtin.Int.intBits x <= 1048576:=fun x hx=>by
 have h:(WData.layable (.list (ns.map WData.int)) && true)=true:=h;rw [Bool.and_true] at h;unfold WData.layable at h;rw [Bool.and_eq_true] at h;have h2:WData.weight (.list (ns.map WData.int)) <= 2 ^ 20:=of_decide_eq_true h.2;exact Nat.le_trans (X3 ns x hx) h2
theorem attach_call2{l:OpenLaw}{n:Nat}{q:Program}{loose:List Str}{XP:(Str->Option Value)->Heap->Prop}{YP:World->Heap->Prop}{d:DefRec}
  (hn:l.most=some n) (hdf:d.params.defaults=[])
  (call:∀ (w:World) (s₀ s₁:Shared) (mg mb:Str->Option Value) (fa:Addr) (o:Obj) (pm cd doc:Value) (a:Addr) (vs:List Value) (ns:List Int),
   Ground q loose [] XP w s₀ mg mb s₁.heap->YP w s₁.heap ->
   s₁.heap.get? fa=some o->o.data = .func (docDef d.name d.params d.body d.scope pm cd doc)->s₁.heap.CodeRec cd d.name->mg d.name=some (.ref fa) ->
   s₁.heap.get? a=some { cls:=.type "list",data:=.seq vs.toArray }->IntsAre vs ns->ns.length <= n->(∀ x ∈ ns,Builtin.Int.intBits x <= 1048576)->s₁.gens = #[] ->
   codeAny (model l.prog w) callerA (.call (.ref fa) ⟨[.ref a],[]⟩) (fun r s'=>r = .ok (.ret (.bool true))/\OldK s₁.heap s'.heap/\s'.os=s₁.os/\AllBare s'.gens) s₁) :
  WalkO q loose XP YP l.row.toRowW d [] (fun f vs=>PySem.call f vs):=by
 intro w s₀ s₁ mg mb G Y fa o pm cd doc dV kV ho hd hcd hD hmg hg args vals as hpre hlay hrd hwl hlo
 obtain rfl:dV = .none:=Dflts.none hD hdf
 obtain rfl:kV = .none:=Dflts.noKw hD
 obtain ⟨a,vs,ns,rfl,rfl,hobj,hints,hlen⟩:=a6f hn hpre hwl;refine enter_call (codeAny_mono (call w s₀ s₁ mg mb fa o pm cd doc a vs ns G Y ho (fd_plain hd) hcd hmg hobj hints hlen (a6t hlay) hg) fun r s' hq=>?_);obtain ⟨rfl,h2,h3,h4⟩:=hq;exact ⟨.inl ⟨.bool true,.bool true,[],rfl,fun _=>rfl,.bool true,a6C l _,fun _=>⟨List.Pairwise.nil,fun _ hm=>(nomatch hm)⟩⟩,h2,h3,h4⟩
end Att
namespace DL
open PySem PySem.Spec L2 PySem.W PyProof.Rows
theorem walkD{l:OpenLaw}{n k:Nat}{q:Program}{loose:List Str}{XP:(Str->Option Value)->Heap->Prop}{YP:World->Heap->Prop}{d:DefRec}{K:Params->PySem.W.Frag}{S:DSp}{x:Str}
  (hn:l.most=some n) (hn2:n <= sizeLine) (hdf:d.params.defaults=[]) (hr:Room k callerA)
  (hY:∀ (w:World) (h:Heap),YP w h->(K w.params).In h)
  (F:∀ (w:World) (mg:Str->Option Value) (fa:Addr) (h:Heap),(K w.params).In h->h.Ns mainGlobals mg->mg d.name=some (.ref fa) ->
   ∃ fd:FuncData,(∀ (s:Shared) (u:Value),BindsTo s fd ⟨[u],[]⟩ [(x,u)]) /\
    ∀ base:Heap,(K w.params).In base->base.Ns mainGlobals mg->l9 l.prog w (K w.params) mg base CX0 k fa fd [x] (spD (K w.params) 1 S))
  (hS:∀ ns:List Int,ns.length <= n->(∀ x ∈ ns,Builtin.Int.intBits x <= 1048576)->S [.scr (ns.map D.int)] [] (fun v _=>v = .bl true)) :
  WalkO q loose XP YP l.row.toRowW d [] (fun f vs=>PySem.call f vs):=by
 refine Att.attach_call2 hn hdf fun w s₀ s₁ mg mb fa o pm cd doc a vs ns G Y ho hd hcd hmg hobj hints hlen hbits hg=>?_;have KX:=hY w _ Y;obtain ⟨fd,hb,hF⟩:=F w mg fa _ KX G.T.g hmg;refine L2.law_call KX G.T.g G.T.b G.T.builtins G.T.nolimit hg hobj hints (Nat.le_trans hlen hn2) hr hF hb (fun H hO hS'=>?_) fun H e s' z=>z;refine ⟨[],[],[],[.scr (ns.map D.int)],_,⟨rfl,List.nodup_nil,fun p hp=>(nomatch hp),fun i o e=>?_⟩,.cons (.scr (a:=a) (us:=ns.map V.int) ?_ (RelDs.ints ns)) .nil,rfl,hS ns hlen hbits,fun d h' α' H' v a b c r=>?_⟩
 ·simp at e
 ·rcases hS' with h | h
  ·exact .inl ⟨fun z=>(nomatch z),fun z=>(nomatch z),h⟩
  ·exact .inr h
 ·have a:d = .bl true:=a;subst a
  cases r;rfl
end DL
namespace DL
open PySem PySem.Spec L2
mutual
def nrD:D->Bool
 |.tup xs=>G7 xs
 |.lst xs=>G7 xs
 |.scr xs=>G7 xs
 |.ref _=>false
 |_=>true
def G7:List D->Bool
 |[]=>true
 |d :: ds=>nrD d && G7 ds
end
def nrO:O->Bool
 |.lst xs=>G7 xs
 |.dT _ kvs=>G7 (kvs.map (·.2))
 |.dK kvs=>G7 (kvs.map (·.2))
 |.ins _ fs=>G7 (fs.map (·.2))
mutual
inductive Vw(n:Nat)(h:Hh):D->D->Prop
 |nr {d:D}:nrD d=true->Vw n h d d
 |old {i:Nat}:i < n->Vw n h (.ref i) (.ref i)
 |opn {i:Nat} {xs ys:List D}:n <= i->h[i]?=some (.lst xs)->Vws n h xs ys->Vw n h (.ref i) (.lst ys)
 |tup {xs ys:List D}:Vws n h xs ys->Vw n h (.tup xs) (.tup ys)
 |lst {xs ys:List D}:Vws n h xs ys->Vw n h (.lst xs) (.lst ys)
inductive Vws(n:Nat)(h:Hh):List D->List D->Prop
 |nil:Vws n h [] []
 |cons {d e:D} {ds es:List D}:Vw n h d e->Vws n h ds es->Vws n h (d :: ds) (e :: es)
end
section
variable {K:PySem.W.Frag} {π α β:List Addr} {H H':Hp} {h:Hh}
theorem VT.less{a:Addr}{us:List V}(t:VT ⟨K,π⟩ (α ++ β) H a us):VT ⟨K,π⟩ α H a us:=⟨fun z=>t.1 (List.mem_append_left _ z),t.2⟩
theorem VS.less{a:Addr}{us:List V}(t:VS ⟨K,π⟩ (α ++ β) H a us):VS ⟨K,π⟩ α H a us:=by
 rcases t with ⟨n,m,t⟩ | t
 ·exact .inl ⟨fun z=>n (List.mem_append_left _ z),m,t⟩
 ·exact .inr t
theorem VL.less{a:Addr}{us:List V}(t:VL ⟨K,π⟩ (α ++ β) H a us):VL ⟨K,π⟩ α H a us:=⟨fun z=>t.1 (List.mem_append_left _ z),t.2⟩
theorem VE.less{a:Addr}{u:HO}(t:VE ⟨K,π⟩ (α ++ β) H a u):VE ⟨K,π⟩ α H a u:=⟨fun z=>t.1 (List.mem_append_left _ z),t.2⟩
theorem S7{x:D}{r:List D}(e:G7 (x :: r)=true):nrD x=true/\G7 r=true:=by
 have e:(nrD _ && G7 _)=true:=e;rw [Bool.and_eq_true] at e;exact e
theorem RelD.nr{d:D}{v:V}(e:nrD d=true)(r:RelD ⟨K,π⟩ (α ++ β) H d v):RelD ⟨K,π⟩ α H d v :=
 RelD.rec (motive_1:=fun d v _=>nrD d=true->RelD ⟨K,π⟩ α H d v) (motive_2:=fun ds us _=>G7 ds=true->RelDs ⟨K,π⟩ α H ds us) (fun _=>.non) (fun b _=>.bl b) (fun i _=>.int i) (fun x _=>.str x) (fun t _ h e=>.tup t.less (h e)) (fun t _ h e=>.lst t.less (h e)) (fun t _ h e=>.scr t.less (h e)) (fun _ e=>nomatch e) (fun n t r _=>.exc n t.less (r.map fun _ _ z=>z.less)) (fun _=>.nil) (fun _ _ h t e=>.cons (h (S7 e).1) (t (S7 e).2)) r e
theorem RelDs.nr{ds:List D}{vs:List V}(e:G7 ds=true)(r:RelDs ⟨K,π⟩ (α ++ β) H ds vs):RelDs ⟨K,π⟩ α H ds vs:=by
 induction ds generalizing vs with
 |nil=>cases r;exact .nil
 |cons d ds ih=>cases r with | cons h t=>exact .cons (h.nr (S7 e).1) (ih (S7 e).2 t)
mutual
def rfD(n:Nat):D->Bool
 |.tup xs=>a3z n xs
 |.lst xs=>a3z n xs
 |.scr xs=>a3z n xs
 |.ref i=>decide (i < n)
 |_=>true
def a3z(n:Nat):List D->Bool
 |[]=>true
 |x :: r=>rfD n x && a3z n r
end
theorem RelD.rf{d:D}{v:V}(r:RelD ⟨K,π⟩ α H d v):rfD α.length d=true :=
 RelD.rec (motive_1:=fun d _ _=>rfD α.length d=true) (motive_2:=fun ds _ _=>a3z α.length ds=true) rfl (fun _=>rfl) (fun _=>rfl) (fun _=>rfl) (fun _ _ h=>h) (fun _ _ h=>h) (fun _ _ h=>h) (fun h=>decide_eq_true (List.getElem?_eq_some_iff.mp h).1) (fun _ _ _=>rfl) rfl (fun _ _ h t=>Bool.and_eq_true_iff.mpr ⟨h,t⟩) r
theorem RelDs.rf{ds:List D}{vs:List V}(r:RelDs ⟨K,π⟩ α H ds vs):a3z α.length ds=true:=by
 induction ds generalizing vs with
 |nil=>rfl
 |cons d ds ih=>cases r with | cons h t=>exact Bool.and_eq_true_iff.mpr ⟨h.rf,ih t⟩
theorem RelD.old2{d:D}{v:V}(e:rfD α.length d=true)(r:RelD ⟨K,π⟩ (α ++ β) H d v):RelD ⟨K,π⟩ α H d v :=
 RelD.rec (motive_1:=fun d v _=>rfD α.length d=true->RelD ⟨K,π⟩ α H d v) (motive_2:=fun ds us _=>a3z α.length ds=true->RelDs ⟨K,π⟩ α H ds us) (fun _=>.non) (fun b _=>.bl b) (fun i _=>.int i) (fun x _=>.str x) (fun t _ h e=>.tup t.less (h e)) (fun t _ h e=>.lst t.less (h e)) (fun t _ h e=>.scr t.less (h e)) (fun h1 e=>.ref (by rw [List.getElem?_append_left (of_decide_eq_true e)] at h1;exact h1)) (fun n t r _=>.exc n t.less (r.map fun _ _ z=>z.less)) (fun _=>.nil) (fun _ _ h t e=>.cons (h (Bool.and_eq_true_iff.mp e).1) (t (Bool.and_eq_true_iff.mp e).2)) r e
theorem RelDs.old2{ds:List D}{vs:List V}(e:a3z α.length ds=true)(r:RelDs ⟨K,π⟩ (α ++ β) H ds vs):RelDs ⟨K,π⟩ α H ds vs:=by
 induction ds generalizing vs with
 |nil=>cases r;exact .nil
 |cons d ds ih=>cases r with | cons h t=>exact .cons (h.old2 (Bool.and_eq_true_iff.mp e).1) (ih (Bool.and_eq_true_iff.mp e).2 t)
theorem RelD.old{d:D}{v v0:V}(r0:RelD ⟨K,π⟩ α H d v0)(r:RelD ⟨K,π⟩ (α ++ β) H' d v):RelD ⟨K,π⟩ α H' d v:=r.old2 r0.rf
theorem RelDs.old{ds:List D}{vs vs0:List V}(r0:RelDs ⟨K,π⟩ α H ds vs0)(r:RelDs ⟨K,π⟩ (α ++ β) H' ds vs):RelDs ⟨K,π⟩ α H' ds vs:=r.old2 r0.rf
theorem RelKV.old{κ:Type}{ds:List (κ×D)}{vs vs0:List (κ×V)}(r0:RelKV ⟨K,π⟩ α H ds vs0)(r:RelKV ⟨K,π⟩ (α ++ β) H' ds vs):RelKV ⟨K,π⟩ α H' ds vs:=by
 induction r0 generalizing vs with
 |nil=>cases r;exact .nil
 |cons r0 _ ih=>cases r with | cons r t=>exact .cons (RelD.old r0 r) (ih t)
theorem RelKV.nr{κ:Type}{ds:List (κ×D)}{vs:List (κ×V)}(e:G7 (ds.map (·.2))=true)(r:RelKV ⟨K,π⟩ (α ++ β) H ds vs):RelKV ⟨K,π⟩ α H ds vs:=by
 induction r with
 |nil=>exact .nil
 |cons r _ ih =>
  have e:(nrD _ && G7 _)=true:=e;rw [Bool.and_eq_true] at e;exact .cons (RelD.nr e.1 r) (ih e.2)
theorem RelO'.nr{p:Addr}{o:O}(e:nrO o=true)(r:RelO' ⟨K,π⟩ (α ++ β) H p o):RelO' ⟨K,π⟩ α H p o:=by
 cases r with
 |lst h t=>exact .lst h (t.nr e)
 |dT h t=>exact .dT h (t.nr e)
 |dK h t=>exact .dK h (t.nr e)
 |ins n h t=>exact .ins n h (t.nr e)
theorem RelO'.old{p p0:Addr}{o:O}(r0:RelO' ⟨K,π⟩ α H p0 o)(r:RelO' ⟨K,π⟩ (α ++ β) H' p o):RelO' ⟨K,π⟩ α H' p o:=by
 cases r0 with
 |lst h0 t0=>cases r with | lst h t=>exact .lst h (t0.old t)
 |dT h0 t0=>cases r with | dT h t=>exact .dT h (t0.old t)
 |dK h0 t0=>cases r with | dK h t=>exact .dK h (t0.old t)
 |ins n0 h0 t0=>cases r with | ins n h t=>exact .ins n h (t0.old t)
theorem Vw.rel(R:HRel ⟨K,π⟩ (α ++ β) H h){n:Nat}(hn:α.length=n){d e:D}{v:V}(w:Vw n h d e)(r:RelD ⟨K,π⟩ (α ++ β) H d v):RelD ⟨K,π⟩ α H e v:=by
 refine Vw.rec (motive_1:=fun d e _=>∀ v,RelD ⟨K,π⟩ (α ++ β) H d v->RelD ⟨K,π⟩ α H e v) (motive_2:=fun ds es _=>∀ vs,RelDs ⟨K,π⟩ (α ++ β) H ds vs->RelDs ⟨K,π⟩ α H es vs) (fun e v r=>r.nr e) ?_ ?_ ?_ ?_ ?_ ?_ w v r
 ·intro i hi v r
  cases r with
  |ref hp=>exact .ref (by rw [List.getElem?_append_left (by omega)] at hp;exact hp)
 ·intro i xs ys hi e _ ih v r
  cases r with
  |ref hp =>
  obtain ⟨us,e2,e3⟩:=b3H R hp e;have hm:=List.mem_of_getElem? hp;refine .lst ⟨fun z=>?_,fun z=>(R.dis _ z).1 hm,e2⟩ (ih _ e3);obtain ⟨j,hj,ej⟩:=List.getElem_of_mem z;subst ej;have q:(α ++ β)[j]?=some α[j]:=by rw [List.getElem?_append_left hj,List.getElem?_eq_getElem hj]
  have:=(List.getElem?_inj (List.getElem?_eq_some_iff.mp hp).1 R.nd).mp (hp.trans q.symm)
  omega
 ·intro xs ys _ ih v r
  cases r with
  |tup q r=>exact .tup q.less (ih _ r)
 ·intro xs ys _ ih v r
  cases r with
  |lst q r=>exact .lst q.less (ih _ r)
 ·intro vs r
  cases r;exact .nil
 ·intro d e ds es _ _ h1 h2 vs r
  cases r with
  |cons r s=>exact .cons (h1 _ r) (h2 _ s)
end
def Dr(h:Hh)(Q:DK):DK:=fun d h'=>∃ h2 g d',h'=h2 ++ g/\h2.length=h.length/\(∀ (i:Nat) (o:O),h2[i]?=some o->h[i]?=some o\/nrO o=true)/\Vw h.length h' d d'/\Q d' h2
theorem Dr.rel{K:PySem.W.Frag}{π α α':List Addr}{H H':Hp}{h h':Hh}{Q:DK}{d:D}{v:V}(R:HRel ⟨K,π⟩ α H h)(e:Ext α H α' H')(R':HRel ⟨K,π⟩ α' H' h')(r:RelD ⟨K,π⟩ α' H' d v)(q:Dr h Q d h') :
  ∃ d' h2,Q d' h2/\Ext α H α H'/\HRel ⟨K,π⟩ α H' h2/\RelD ⟨K,π⟩ α H' d' v:=by
 obtain ⟨h2,g,d',rfl,hl,ho,vw,q⟩:=q;obtain ⟨⟨β,rfl,hb⟩,ek,ed⟩:=e;have hn:=R.len;refine ⟨d',h2,q,⟨⟨[],by simp,fun p hp=>nomatch hp⟩,ek,ed⟩,⟨by omega,?_,fun p hp=>?_,fun i o eo=>?_⟩,vw.rel R' hn r⟩
 ·exact R.nd
 ·exact ⟨fun z=>(R'.dis p hp).1 (List.mem_append_left _ z),(R'.dis p hp).2⟩
 ·have hi:i < h2.length:=(List.getElem?_eq_some_iff.mp eo).1;obtain ⟨p,ep,ro⟩:=R'.obj i o (by rw [List.getElem?_append_left hi];exact eo);refine ⟨p,by rw [List.getElem?_append_left (by omega)] at ep;exact ep,?_⟩
  rcases ho i o eo with z | z
  ·obtain ⟨p0,_,r0⟩:=R.obj i o z;exact r0.old ro
  ·exact ro.nr z
theorem a0F{P:Program}{w:World}{K:PySem.W.Frag}{mg:Str->Option Value}{base:Heap}{x qual:Str}{st:Stmt}{f:Addr}{fd:FuncData}{N ps:List Str}{k:Nat}{b:DS}{g:DSp}(F:Fun K x qual st f fd)(S:i4 N ps (c7 st))
  (hb:∀ (cdv:Value) (A:Around) (outer:List Env) (s:Shared) (H:Hp) (E:XK),Room k (A.deeper (PyProof.Rows.envOfC qual (c7 st) s.heap.objs.size f cdv))->SSs (a2Q CX0 P w K mg base N qual (c7 st) f cdv A outer s H E).nox (j3 st) b)
  (hg:∀ ds h Q,g ds h Q->i7 N.length b ds h (Dr h Q)):l9 P w K mg base CX0 (k + 1) f fd ps (spD K ps.length g):=by
 refine F.ok S (fun vs H Q E h=>?_) fun cdv A outer s H vs Q E hr h=>?_
 ·obtain ⟨π,α,h,ds,Q',R,r,l,_⟩:=h;rw [<- r.length,l]
 ·obtain ⟨π,α,h,ds,Q',R,r,l,q,kk⟩:=h;refine ⟨_,hb cdv A outer s H E hr,π,α,_,h,{ nx:=fun _ h'=>Dr h Q' .non h',rt:=Dr h Q' },R,a0S r,hg ds h Q' q,⟨fun _ h' α' H' σ' a b c _=>?_,fun d h' α' H' v a b c d'=>?_,fun _ _ _ _ _ a _ _ _=>a.elim,fun _ _ _ _ _ a _ _ _=>a.elim,fun _ _ _ _ _ _ _ a _ _ _=>a.elim⟩⟩
  ·obtain ⟨d',h2,q,e,R2,r2⟩:=a.rel R b c .non;exact kk d' h2 α H' .non q e R2 r2
  ·obtain ⟨d',h2,q,e,R2,r2⟩:=a.rel R b c d';exact kk d' h2 α H' v q e R2 r2
theorem F2{τ:Type}{g:τ->D}(hg:∀ x,nrD (g x)=true):∀ xs:List τ,G7 (xs.map g)=true
 |[]=>rfl
 |x :: r=>by
  show (nrD (g x) && G7 (r.map g))=true;rw [hg x,F2 hg r];rfl
theorem Vws.of{n:Nat}{h:Hh}:∀ {xs:List D},G7 xs=true->Vws n h xs xs
 |[],_=>.nil
 |x :: r,e=>by
  have e:(nrD x && G7 r)=true:=e;rw [Bool.and_eq_true] at e;exact .cons (.nr e.1) (Vws.of e.2)
theorem Vws.of_get{n:Nat}{h:Hh}:∀ {xs ys:List D},xs.length=ys.length->(∀ (i:Nat) (x y:D),xs[i]?=some x->ys[i]?=some y->Vw n h x y)->Vws n h xs ys
 |[],[],_,_=>.nil
 |x :: xs,y :: ys,e,k=>.cons (k 0 x y rfl rfl) (Vws.of_get (by simpa using e) fun i a b h1 h2=>k (i + 1) a b (by simpa using h1) (by simpa using h2))
theorem Dr.same{h:Hh}{Q:DK}{d:D}(e:nrD d=true)(q:Q d h):Dr h Q d h:=⟨h,[],d,by simp,rfl,fun _ _ e=>.inl e,.nr e,q⟩
theorem Dr.drop{h g:Hh}{Q:DK}{d:D}(e:nrD d=true)(q:Q d h):Dr h Q d (h ++ g):=⟨h,g,d,rfl,rfl,fun _ _ e=>.inl e,.nr e,q⟩
theorem Dr.dropL{h:Hh}{Q:DK}{xs:List D}{g1 g2:Hh}{k:Nat}(e:G7 xs=true)(hk:k=h.length + g1.length)(q:Q (.lst xs) h):Dr h Q (.ref k) (h ++ (g1 ++ .lst xs :: g2)):=by
 refine ⟨h,g1 ++ .lst xs :: g2,.lst xs,rfl,rfl,fun _ _ e=>.inl e,.opn (by omega) ?_ (.of e),q⟩;subst hk;rw [List.getElem?_append_right (by omega),show h.length + g1.length - h.length=g1.length by omega,List.getElem?_append_right (Nat.le_refl _)]
 simp
end DL
namespace DL
open PySem L2
theorem atN{α:Type}(xs:List α)(i:Nat):atI xs (i:Int)=xs[i]?:=by
 unfold atI ixN
 by_cases h:i < xs.length
 ·rw [if_pos (by omega),if_pos (by omega)];simp
 ·rw [if_pos (by omega),if_neg (by omega)]
  simp;omega
theorem b0v{α:Type}{xs:List α}{i:Int}(h0:0 <= i):atI xs i=xs[i.toNat]?:=by
 have:=atN xs i.toNat
 rwa [Int.toNat_of_nonneg h0] at this
theorem b9P{α:Type}(a:α)(l:List α):atI (a :: l) 0=some a:=atN _ 0
theorem c0T{α:Type}(a b:α)(l:List α):atI (a :: b :: l) 1=some b:=atN _ 1
theorem c0N{α:Type}(a b c:α)(l:List α):atI (a :: b :: c :: l) 2=some c:=atN _ 2
theorem b9I{α:Type}(a b c d:α)(l:List α):atI (a :: b :: c :: d :: l) 3=some d:=atN _ 3
theorem c2Z{α:Type}(a:α):atI [a] 0=some a:=rfl
theorem c3l{α:Type}(a b:α):atI [a,b] 0=some a:=rfl
theorem c2w{α:Type}(a b:α):atI [a,b] 1=some b:=rfl
theorem c2W{α:Type}(a b c:α):atI [a,b,c] 0=some a:=rfl
theorem c2t{α:Type}(a b c:α):atI [a,b,c] 1=some b:=rfl
theorem c3k{α:Type}(a b c:α):atI [a,b,c] 2=some c:=rfl
theorem c3i{α:Type}(a b c d:α):atI [a,b,c,d] 0=some a:=rfl
theorem c2P{α:Type}(a b c d:α):atI [a,b,c,d] 1=some b:=rfl
theorem c3c{α:Type}(a b c d:α):atI [a,b,c,d] 2=some c:=rfl
theorem c2u{α:Type}(a b c d:α):atI [a,b,c,d] 3=some d:=rfl
theorem c2L{α:Type}(a b c d e:α):atI [a,b,c,d,e] 0=some a:=rfl
theorem c2C{α:Type}(a b c d e:α):atI [a,b,c,d,e] 1=some b:=rfl
theorem c2F{α:Type}(a b c d e:α):atI [a,b,c,d,e] 2=some c:=rfl
theorem c2M{α:Type}(a b c d e:α):atI [a,b,c,d,e] 3=some d:=rfl
theorem c2V{α:Type}(a b c d e:α):atI [a,b,c,d,e] 4=some e:=rfl
theorem c2s{α:Type}(a b c d e f:α):atI [a,b,c,d,e,f] 0=some a:=rfl
theorem c2H{α:Type}(a b c d e f:α):atI [a,b,c,d,e,f] 1=some b:=rfl
theorem c2K{α:Type}(a b c d e f:α):atI [a,b,c,d,e,f] 2=some c:=rfl
theorem c2T{α:Type}(a b c d e f:α):atI [a,b,c,d,e,f] 3=some d:=rfl
theorem c2Q{α:Type}(a b c d e f:α):atI [a,b,c,d,e,f] 4=some e:=rfl
theorem c2N{α:Type}(a b c d e f:α):atI [a,b,c,d,e,f] 5=some f:=rfl
theorem c2y{α:Type}(a b c d e f g:α):atI [a,b,c,d,e,f,g] 0=some a:=rfl
theorem c2A{α:Type}(a b c d e f g:α):atI [a,b,c,d,e,f,g] 1=some b:=rfl
theorem c3f{α:Type}(a b c d e f g:α):atI [a,b,c,d,e,f,g] 2=some c:=rfl
theorem c3g{α:Type}(a b c d e f g:α):atI [a,b,c,d,e,f,g] 3=some d:=rfl
theorem c2x{α:Type}(a b c d e f g:α):atI [a,b,c,d,e,f,g] 4=some e:=rfl
theorem c2D{α:Type}(a b c d e f g:α):atI [a,b,c,d,e,f,g] 5=some f:=rfl
theorem c3h{α:Type}(a b c d e f g:α):atI [a,b,c,d,e,f,g] 6=some g:=rfl
theorem c2G{α:Type}(a b c d e f g i:α):atI [a,b,c,d,e,f,g,i] 0=some a:=rfl
theorem c2I{α:Type}(a b c d e f g i:α):atI [a,b,c,d,e,f,g,i] 1=some b:=rfl
theorem c2X{α:Type}(a b c d e f g i:α):atI [a,b,c,d,e,f,g,i] 2=some c:=rfl
theorem c3d{α:Type}(a b c d e f g i:α):atI [a,b,c,d,e,f,g,i] 3=some d:=rfl
theorem c2B{α:Type}(a b c d e f g i:α):atI [a,b,c,d,e,f,g,i] 4=some e:=rfl
theorem c2r{α:Type}(a b c d e f g i:α):atI [a,b,c,d,e,f,g,i] 5=some f:=rfl
theorem c2p{α:Type}(a b c d e f g i:α):atI [a,b,c,d,e,f,g,i] 6=some g:=rfl
theorem c2z{α:Type}(a b c d e f g i:α):atI [a,b,c,d,e,f,g,i] 7=some i:=rfl
theorem A6{h:Hh}{d:D}{xs:List D}(e:A4 h d=some xs)(k:Int):ixD h d (.int k)=atI xs k:=by
 cases d with
 |lst ys=>cases e;rfl
 |scr ys=>cases e;rfl
 |ref i =>
  have e:(match h[i]? with | some (.lst xs)=>some xs | _=>none)=some xs:=e;show (match h[i]? with | some (.lst xs)=>atI xs k | _=>none)=atI xs k
  cases q:h[i]? with
  |none=>rw [q] at e;cases e
  |some o =>
   rw [q] at e
   cases o with
   |lst ys=>cases e;rfl
   |_=>cases e
 |_=>cases e
theorem b6a{h:Hh}{d:D}{xs:List D}(e:A4 h d=some xs):G3 h d=some xs:=by
 cases d with
 |lst ys=>exact e
 |scr ys=>exact e
 |ref i=>exact e
 |_=>cases e
theorem y0{h:Hh}{d:D}{xs:List D}(e:A4 h d=some xs):a3V h d=some xs.length:=by
 have s:=b6a e
 cases d with
 |lst ys=>cases e;rfl
 |scr ys=>cases e;rfl
 |ref i=>show (G3 h (.ref i)).map List.length=_;rw [s];rfl
 |_=>cases e
theorem b7N{h:Hh}{d:D}{xs:List D}(e:A4 h d=some xs):∃ w,F3 h d=some ⟨xs,w⟩/\(Src.mk xs w).ok h/\∀ p ∈ w,∃ i,d = .ref i/\p=(i,.lst xs):=by
 cases d with
 |lst ys=>cases e;exact ⟨[],rfl,Src.ok_nil,fun p hp=>nomatch hp⟩
 |scr ys=>cases e;exact ⟨[],rfl,Src.ok_nil,fun p hp=>nomatch hp⟩
 |ref i =>
  have e:(match h[i]? with | some (.lst xs)=>some xs | _=>none)=some xs:=e
  cases q:h[i]? with
  |none=>rw [q] at e;cases e
  |some o =>
   rw [q] at e
   cases o with
   |lst ys =>
    cases e;refine ⟨[(i,.lst xs)],?_,fun p hp=>?_,fun p hp=>⟨i,rfl,List.mem_singleton.mp hp⟩⟩
    ·show (match h[i]? with | some (.lst xs)=>some (Src.mk xs [(i,.lst xs)]) | _=>none)=_;rw [q]
    ·rw [List.mem_singleton.mp hp];exact q
   |_=>cases e
 |_=>cases e
def Pre(h h':Hh):Prop:=∀ (i:Nat) (o:O),h[i]?=some o->h'[i]?=some o
theorem Pre.app(h g:Hh):Pre h (h ++ g):=fun i o e=>by
 rw [List.getElem?_append_left (List.getElem?_eq_some_iff.mp e).1];exact e
theorem Pre.ls{h h':Hh}(p:Pre h h'){d:D}{xs:List D}(e:A4 h d=some xs):A4 h' d=some xs:=by
 cases d with
 |ref i =>
  have e:(match h[i]? with | some (.lst xs)=>some xs | _=>none)=some xs:=e;show (match h'[i]? with | some (.lst xs)=>some xs | _=>none)=some xs
  cases q:h[i]? with
  |none=>rw [q] at e;cases e
  |some o=>rw [q] at e;rw [p i o q];exact e
 |_=>exact e
theorem b6U(h:Hh)(xs:List D):A4 (h ++ [.lst xs]) (.ref h.length)=some xs:=by
 show (match (h ++ [O.lst xs])[h.length]? with | some (.lst xs)=>some xs | _=>none)=some xs;rw [List.getElem?_append_right (Nat.le_refl _)];simp
theorem u9(h:Hh)(o:O):(h ++ [o])[h.length]?=some o:=by
 rw [List.getElem?_append_right (Nat.le_refl _)];simp
theorem A9(h:Hh)(o u:O):(h ++ [o]).set h.length u=h ++ [u]:=by
 rw [List.set_append_right _ _ (Nat.le_refl _)];simp
theorem m8{τ:Type}{S:Src}{t:DG}{b:DS}{E:E8}(P:List τ->Sl->Hh->Prop){g:τ->D}{ys:List τ}{δ:Sl}{h:Hh}(h0:P [] δ h)(ok:∀ p δ h,P p δ h->S.ok h)
  (hs:∀ (p:List τ) (y:τ) (r:List τ) (δ:Sl) (h:Hh) (N:Sl->Hh->Prop),ys=p ++ y :: r->P p δ h->(∀ δ h,P (p ++ [y]) δ h->N δ h)->t (g y) δ h fun δ2 h2=>b { E with nx:=N,ct:=N,bk:=E.nx } δ2 h2)
  (hd:∀ δ h,P ys δ h->E.nx δ h):a3Z S t b E (ys.map g) δ h:=by
 have go:∀ (r p:List τ) δ h,ys=p ++ r->P p δ h->a3Z S t b E (r.map g) δ h:=by
  intro r
  induction r with
  |nil=>intro p δ h e q;rw [List.append_nil] at e;subst e;exact ⟨ok _ _ _ q,hd _ _ q⟩
  |cons y r ih =>
   intro p δ h e q;exact ⟨ok _ _ _ q,hs p y r δ h _ e q fun δ3 h3 p3=>ih (p ++ [y]) δ3 h3 (by rw [e];simp) p3⟩
 exact go ys [] δ h rfl h0
theorem C8{τ:Type}{S:Src}{t:DG}{tf:DT}{te:DE}(P:List τ->List D->Sl->Hh->Prop){g:τ->D}{ys:List τ}{δ:Sl}{h:Hh}{Q:List D->Hh->Prop}(h0:P [] [] δ h)(ok:∀ p a δ h,P p a δ h->S.ok h)
  (hs:∀ (p:List τ) (y:τ) (r:List τ) (acc:List D) (δ:Sl) (h:Hh) (N:List D->Sl->Hh->Prop),ys=p ++ y :: r->P p acc δ h->(∀ a δ h,P (p ++ [y]) a δ h->N a δ h) ->
   t (g y) δ h fun δ2 h2=>tf δ2 h2 fun b h3=>if b=true then te δ2 h3 fun z h4=>N (acc ++ [z]) δ2 h4 else N acc δ2 h3)
  (hd:∀ a δ h,P ys a δ h->Q a h):Q3 S t tf te (ys.map g) [] δ h Q:=by
 have go:∀ (r p:List τ) a δ h,ys=p ++ r->P p a δ h->Q3 S t tf te (r.map g) a δ h Q:=by
  intro r
  induction r with
  |nil=>intro p a δ h e q;rw [List.append_nil] at e;subst e;exact ⟨ok _ _ _ _ q,hd _ _ _ q⟩
  |cons y r ih =>
   intro p a δ h e q;exact ⟨ok _ _ _ _ q,hs p y r a δ h (fun a δ h=>Q3 S t tf te (r.map g) a δ h Q) e q fun a3 δ3 h3 p3=>ih (p ++ [y]) a3 δ3 h3 (by rw [e];simp) p3⟩
 exact go ys [] [] δ h rfl h0
theorem a4y{τ:Type}{S:Src}{tf:DT}{te:DE}{g:τ->D}{ys:List τ}{h:Hh}{fr:Sl}{Q:List D->Hh->Prop}(c:τ->Bool)(v:τ->D)(ok:S.ok h)(o:Option D)
  (htf:∀ y ∈ ys,∀ K:Bool->Hh->Prop,K (c y) h->tf (some (g y) :: fr) h K) (hte:∀ y ∈ ys,c y=true->∀ K:DK,K (v y) h->te (some (g y) :: fr) h K)
  (hd:Q ((ys.filter c).map v) h):Q3 S (c9 0) tf te (ys.map g) [] (o :: fr) h Q:=by
 refine C8 (fun p a δ h'=>h'=h/\(∃ o,δ=o :: fr)/\a=(p.filter c).map v) ⟨rfl,⟨o,rfl⟩,rfl⟩ (fun p a δ h' q=>by rw [q.1];exact ok) ?_ ?_
 ·rintro p y r acc δ h' N e ⟨rfl,⟨o,rfl⟩,rfl⟩ hN
  have hy:y ∈ ys:=by rw [e];simp
  refine htf y hy _ ?_
  cases hc:c y with
  |true =>
   refine a0X (hte y hy hc _ (hN _ _ _ ⟨rfl,⟨_,rfl⟩,?_⟩))
   simp [List.filter_append,hc]
  |false =>
   refine a0w (hN _ _ _ ⟨rfl,⟨_,rfl⟩,?_⟩)
   simp [List.filter_append,hc]
 ·rintro a δ h' ⟨rfl,_,rfl⟩
  exact hd
theorem a0e{τ:Type}{S:Src}{te:DE}{g:τ->D}{ys:List τ}{h:Hh}{fr:Sl}{Q:List D->Hh->Prop}(v:τ->D)(ok:S.ok h)(o:Option D)
  (hte:∀ y ∈ ys,∀ K:DK,K (v y) h->te (some (g y) :: fr) h K) (hd:Q (ys.map v) h):Q3 S (c9 0) L8 te (ys.map g) [] (o :: fr) h Q :=
 a4y (fun _=>true) v ok o (fun _ _ K k=>k) (fun y hy _=>hte y hy) ((show ys.filter (fun _=>true)=ys by simp).symm ▸ hd)
theorem o8(lo:Int):∀ n:Nat,C9 lo n=(List.range n).map fun i=>D.int (lo + (i:Nat)):=by
 intro n
 apply List.ext_getElem?
 intro i;rw [Q6]
 by_cases h:i < n <;> simp [h]
theorem a1H{τ:Type}(lo:Int)(g:τ->D)(ys:List τ):J1 lo (ys.map g)=ys.zipIdx.map fun p=>.tup [.int (lo + (p.2:Nat)),g p.1]:=by
 apply List.ext_getElem?
 intro i;rw [W3]
 simp [List.getElem?_zipIdx]
 cases ys[i]? <;> simp
theorem c1s:L7 .non=true:=rfl
theorem c1F(b:Bool):L7 (.bl b)=false:=rfl
theorem c1e(b:Int):L7 (.int b)=false:=rfl
theorem c1q(b:Str):L7 (.str b)=false:=rfl
theorem c1r(b:List D):L7 (.tup b)=false:=rfl
theorem c1p(b:List D):L7 (.lst b)=false:=rfl
theorem c0Y(b:Nat):L7 (.ref b)=false:=rfl
theorem c0p(h:Hh)(xs:List D):A4 h (.lst xs)=some xs:=rfl
theorem b8X(h:Hh)(xs:List D):G3 h (.lst xs)=some xs:=rfl
theorem b5Z(h:Hh)(xs:List D):F3 h (.lst xs)=some ⟨xs,[]⟩:=rfl
theorem b9q(h:Hh)(xs:List D):a3V h (.lst xs)=some xs.length:=rfl
theorem c1b(h:Hh)(xs:List D)(i:Int):ixD h (.lst xs) (.int i)=atI xs i:=rfl
theorem c1d(h:Hh)(xs:List D):trD h (.lst xs)=some (!xs.isEmpty):=rfl
theorem c0v(h:Hh)(xs:List D):A4 h (.scr xs)=some xs:=rfl
theorem b9b(h:Hh)(xs:List D):G3 h (.scr xs)=some xs:=rfl
theorem b5S(h:Hh)(xs:List D):F3 h (.scr xs)=some ⟨xs,[]⟩:=rfl
theorem b9K(h:Hh)(xs:List D):a3V h (.scr xs)=some xs.length:=rfl
theorem c1t(h:Hh)(xs:List D)(i:Int):ixD h (.scr xs) (.int i)=atI xs i:=rfl
theorem c1u(h:Hh)(xs:List D):trD h (.scr xs)=some (!xs.isEmpty):=rfl
theorem c1f(h:Hh)(xs:List D):lsP h (.lst xs)=some xs:=rfl
theorem c1k(h:Hh)(xs:List D):lsP h (.tup xs)=none:=rfl
theorem c1m(h:Hh)(x:Int):lsP h (.int x)=none:=rfl
theorem c1c(h:Hh)(x:Str):lsP h (.str x)=none:=rfl
theorem b9h(h:Hh)(xs:List D):G3 h (.tup xs)=some xs:=rfl
theorem b6I(h:Hh)(xs:List D):F3 h (.tup xs)=some ⟨xs,[]⟩:=rfl
theorem c0X(h:Hh)(xs:List D):a3V h (.tup xs)=some xs.length:=rfl
theorem c1l(h:Hh)(xs:List D)(i:Int):ixD h (.tup xs) (.int i)=atI xs i:=rfl
theorem c0Z(h:Hh)(xs:List D):trD h (.tup xs)=some (!xs.isEmpty):=rfl
theorem c1g(h:Hh):trD h .non=some false:=rfl
theorem c2h(h:Hh)(b:Bool):trD h (.bl b)=some b:=rfl
theorem c1o(h:Hh)(i:Int):trD h (.int i)=some (i != 0):=rfl
theorem b8Y(h:Hh) :a0N h (.non)=some "NoneType":=rfl
theorem c0o(h:Hh)(x:Bool):a0N h (.bl x)=some "bool":=rfl
theorem b9d(h:Hh)(x:Int):a0N h (.int x)=some "int":=rfl
theorem b8Z(h:Hh)(x:Str):a0N h (.str x)=some "str":=rfl
theorem b9a(h:Hh)(x:List D):a0N h (.tup x)=some "tuple":=rfl
theorem b9i(h:Hh)(x:List D):a0N h (.lst x)=some "list":=rfl
theorem a5p:j5 "NoneType" "bool" = false:=rfl
theorem a6p:j5 "NoneType" "int" = false:=rfl
theorem a6c:j5 "NoneType" "str" = false:=rfl
theorem a4d:j5 "NoneType" "tuple" = false:=rfl
theorem a4v:j5 "NoneType" "list" = false:=rfl
theorem a5m:j5 "NoneType" "dict" = false:=rfl
theorem b1j:j5 "bool" "bool" = true:=rfl
theorem b2b:j5 "bool" "int" = true:=rfl
theorem b3G:j5 "bool" "str" = false:=rfl
theorem b0L:j5 "bool" "tuple" = false:=rfl
theorem b1o:j5 "bool" "list" = false:=rfl
theorem b1v:j5 "bool" "dict" = false:=rfl
theorem b3I:j5 "int" "bool" = false:=rfl
theorem b4H:j5 "int" "int" = true:=rfl
theorem b4J:j5 "int" "str" = false:=rfl
theorem b1F:j5 "int" "tuple" = false:=rfl
theorem b2O:j5 "int" "list" = false:=rfl
theorem b4p:j5 "int" "dict" = false:=rfl
theorem b3N:j5 "str" "bool" = false:=rfl
theorem b5f:j5 "str" "int" = false:=rfl
theorem b4R:j5 "str" "str" = true:=rfl
theorem b1e:j5 "str" "tuple" = false:=rfl
theorem b3R:j5 "str" "list" = false:=rfl
theorem b3A:j5 "str" "dict" = false:=rfl
theorem a8W:j5 "tuple" "bool" = false:=rfl
theorem b1x:j5 "tuple" "int" = false:=rfl
theorem b1d:j5 "tuple" "str" = false:=rfl
theorem a6N:j5 "tuple" "tuple" = true:=rfl
theorem b0I:j5 "tuple" "list" = false:=rfl
theorem b0a:j5 "tuple" "dict" = false:=rfl
theorem b1l:j5 "list" "bool" = false:=rfl
theorem b2Q:j5 "list" "int" = false:=rfl
theorem b3r:j5 "list" "str" = false:=rfl
theorem a8l:j5 "list" "tuple" = false:=rfl
theorem b1A:j5 "list" "list" = true:=rfl
theorem b1s:j5 "list" "dict" = false:=rfl
theorem b1n:j5 "dict" "bool" = false:=rfl
theorem b2w:j5 "dict" "int" = false:=rfl
theorem b3x:j5 "dict" "str" = false:=rfl
theorem a7S:j5 "dict" "tuple" = false:=rfl
theorem b0U:j5 "dict" "list" = false:=rfl
theorem b1a:j5 "dict" "dict" = true:=rfl
theorem l7{h:Hh}{i:Nat}{xs:List D}(e:h[i]?=some (.lst xs)):A4 h (.ref i)=some xs:=by show (match h[i]? with | some (.lst xs)=>some xs | _=>none)=_;rw [e]
theorem L4{h:Hh}{i:Nat}{xs:List D}(e:h[i]?=some (.lst xs)):F3 h (.ref i)=some ⟨xs,[(i,.lst xs)]⟩:=by show (match h[i]? with | some (.lst xs)=>some (Src.mk xs [(i,.lst xs)]) | _=>none)=_;rw [e]
theorem c3a(n:Nat):ixN (n + 1) 0=some 0:=by unfold ixN;rw [if_pos (by decide),if_pos (by omega)];rfl
theorem c1E:ixN 1 0=some 0:=rfl
theorem U3{n i:Nat}(h:i < n):ixN n (i:Int)=some i:=by unfold ixN;rw [if_pos (by omega),if_pos (by omega)];simp
theorem b6d{h:Hh}{i:Nat}{o:O}(e:h[i]?=some o):h.set i o=h:=by
 apply List.ext_getElem?
 intro j
 by_cases z:i=j
 ·subst z;rw [List.getElem?_set_self (List.getElem?_eq_some_iff.mp e).1,e]
 ·rw [List.getElem?_set_ne z]
theorem z5{n d:Nat}{p r:List Nat}(e:List.range n=p ++ d :: r):d=p.length/\d < n:=by
 have h9:p.length < n:=by
  have:p.length < (List.range n).length:=by rw [e];simp
  simpa using this
 have h8:(List.range n)[p.length]?=some d:=by rw [e];simp
 rw [List.getElem?_range h9] at h8
 cases h8;exact ⟨rfl,h9⟩
theorem J9{f g:DS}{E:E8}{δ:Sl}{h:Hh}(k:∀ N:Sl->Hh->Prop,N=g E->f { E with nx:=N } δ h):f7 f g E δ h:=k _ rfl
theorem a6q(a b:Nat):((a:Int) == (b:Int))=decide (a=b):=by rw [Bool.eq_iff_iff];simp;omega
theorem a9g(a b:Nat):((a:Int) == (b:Int) - 1)=decide (a + 1=b):=by rw [Bool.eq_iff_iff];simp;omega
theorem q8{t:DT}{a b:DS}{E:E8}{δ:Sl}{h:Hh}(k:∀ A B:Sl->Hh->Prop,A=a E->B=b E->t δ h fun c h1=>if c=true then A δ h1 else B δ h1):v7 t a b E δ h:=k _ _ rfl rfl
theorem M8{c:Bool}{A B:Prop}(h1:c=true->A)(h2:c=false->B):if c=true then A else B:=by
 cases c with
 |true=>exact a0X (h1 rfl)
 |false=>exact a0w (h2 rfl)
theorem a6b{i j:Int}(h:-(2 ^ 64) < i/\i < 2 ^ 64):IntMulOk i j:=.of_left (intBits_le_64 h.1 h.2)
theorem c0j{i j:Int}(h:-(2 ^ 64) < j/\j < 2 ^ 64):IntMulOk i j:=.of_right (intBits_le_64 h.1 h.2)
end DL
namespace CM
open PySem L2 DL
theorem b2n:PyData.strOk (Str.ofString "step")=true:=by decide +kernel
theorem b2G:((Str.ofString "step") == (Str.ofString "step"))=true:=by decide +kernel
theorem b2y:((Str.ofString "step") == (Str.ofString "call"))=false:=by decide +kernel
theorem b7o:((Str.ofString "step") == (Str.ofString "in"))=false:=by decide +kernel
theorem b3q:((Str.ofString "step") == (Str.ofString "over"))=false:=by decide +kernel
theorem b1k:((Str.ofString "step") == (Str.ofString "begin"))=false:=by decide +kernel
theorem b0X:((Str.ofString "step") == (Str.ofString "start"))=false:=by decide +kernel
theorem b1u:((Str.ofString "step") == (Str.ofString "short"))=false:=by decide +kernel
theorem b1q:((Str.ofString "step") == (Str.ofString "along"))=false:=by decide +kernel
theorem a9t:((Str.ofString "step") == (Str.ofString "within"))=false:=by decide +kernel
theorem b7l:((Str.ofString "step") == (Str.ofString "at"))=false:=by decide +kernel
theorem b4F:((Str.ofString "step") == (Str.ofString "out"))=false:=by decide +kernel
theorem b3J:PyData.strOk (Str.ofString "call")=true:=by decide +kernel
theorem b3l:((Str.ofString "call") == (Str.ofString "step"))=false:=by decide +kernel
theorem b3y:((Str.ofString "call") == (Str.ofString "call"))=true:=by decide +kernel
theorem b6b:((Str.ofString "call") == (Str.ofString "in"))=false:=by decide +kernel
theorem b3L:((Str.ofString "call") == (Str.ofString "over"))=false:=by decide +kernel
theorem b0V:((Str.ofString "call") == (Str.ofString "begin"))=false:=by decide +kernel
theorem b1w:((Str.ofString "call") == (Str.ofString "start"))=false:=by decide +kernel
theorem b1B:((Str.ofString "call") == (Str.ofString "short"))=false:=by decide +kernel
theorem b1m:((Str.ofString "call") == (Str.ofString "along"))=false:=by decide +kernel
theorem a7O:((Str.ofString "call") == (Str.ofString "within"))=false:=by decide +kernel
theorem b8o:((Str.ofString "call") == (Str.ofString "at"))=false:=by decide +kernel
theorem b4T:((Str.ofString "call") == (Str.ofString "out"))=false:=by decide +kernel
theorem c2S:PyData.strOk (Str.ofString "in")=true:=by decide +kernel
theorem b8N:((Str.ofString "in") == (Str.ofString "step"))=false:=by decide +kernel
theorem b8m:((Str.ofString "in") == (Str.ofString "call"))=false:=by decide +kernel
theorem b9M:((Str.ofString "in") == (Str.ofString "in"))=true:=by decide +kernel
theorem b6l:((Str.ofString "in") == (Str.ofString "over"))=false:=by decide +kernel
theorem b4Q:((Str.ofString "in") == (Str.ofString "begin"))=false:=by decide +kernel
theorem b4V:((Str.ofString "in") == (Str.ofString "start"))=false:=by decide +kernel
theorem b5a:((Str.ofString "in") == (Str.ofString "short"))=false:=by decide +kernel
theorem b5p:((Str.ofString "in") == (Str.ofString "along"))=false:=by decide +kernel
theorem b1Q:((Str.ofString "in") == (Str.ofString "within"))=false:=by decide +kernel
theorem b9t:((Str.ofString "in") == (Str.ofString "at"))=false:=by decide +kernel
theorem b9g:((Str.ofString "in") == (Str.ofString "out"))=false:=by decide +kernel
theorem c1j:PyData.strOk (Str.ofString "over")=true:=by decide +kernel
theorem b1Y:((Str.ofString "over") == (Str.ofString "step"))=false:=by decide +kernel
theorem b4j:((Str.ofString "over") == (Str.ofString "call"))=false:=by decide +kernel
theorem b7W:((Str.ofString "over") == (Str.ofString "in"))=false:=by decide +kernel
theorem b2Z:((Str.ofString "over") == (Str.ofString "over"))=true:=by decide +kernel
theorem b1g:((Str.ofString "over") == (Str.ofString "begin"))=false:=by decide +kernel
theorem b1D:((Str.ofString "over") == (Str.ofString "start"))=false:=by decide +kernel
theorem b0Z:((Str.ofString "over") == (Str.ofString "short"))=false:=by decide +kernel
theorem b1E:((Str.ofString "over") == (Str.ofString "along"))=false:=by decide +kernel
theorem a9V:((Str.ofString "over") == (Str.ofString "within"))=false:=by decide +kernel
theorem b5B:((Str.ofString "over") == (Str.ofString "at"))=false:=by decide +kernel
theorem b4X:((Str.ofString "over") == (Str.ofString "out"))=false:=by decide +kernel
theorem b9w:PyData.strOk (Str.ofString "begin")=true:=by decide +kernel
theorem b1b:((Str.ofString "begin") == (Str.ofString "step"))=false:=by decide +kernel
theorem b1y:((Str.ofString "begin") == (Str.ofString "call"))=false:=by decide +kernel
theorem b5e:((Str.ofString "begin") == (Str.ofString "in"))=false:=by decide +kernel
theorem b0T:((Str.ofString "begin") == (Str.ofString "over"))=false:=by decide +kernel
theorem a9h:((Str.ofString "begin") == (Str.ofString "begin"))=true:=by decide +kernel
theorem a9b:((Str.ofString "begin") == (Str.ofString "start"))=false:=by decide +kernel
theorem a9r:((Str.ofString "begin") == (Str.ofString "short"))=false:=by decide +kernel
theorem b0s:((Str.ofString "begin") == (Str.ofString "along"))=false:=by decide +kernel
theorem a6S:((Str.ofString "begin") == (Str.ofString "within"))=false:=by decide +kernel
theorem b4I:((Str.ofString "begin") == (Str.ofString "at"))=false:=by decide +kernel
theorem b3h:((Str.ofString "begin") == (Str.ofString "out"))=false:=by decide +kernel
theorem c0J:PyData.strOk (Str.ofString "start")=true:=by decide +kernel
theorem b0Y:((Str.ofString "start") == (Str.ofString "step"))=false:=by decide +kernel
theorem b1C:((Str.ofString "start") == (Str.ofString "call"))=false:=by decide +kernel
theorem b4E:((Str.ofString "start") == (Str.ofString "in"))=false:=by decide +kernel
theorem b1i:((Str.ofString "start") == (Str.ofString "over"))=false:=by decide +kernel
theorem b0n:((Str.ofString "start") == (Str.ofString "begin"))=false:=by decide +kernel
theorem a8r:((Str.ofString "start") == (Str.ofString "start"))=true:=by decide +kernel
theorem a8g:((Str.ofString "start") == (Str.ofString "short"))=false:=by decide +kernel
theorem b0u:((Str.ofString "start") == (Str.ofString "along"))=false:=by decide +kernel
theorem a6P:((Str.ofString "start") == (Str.ofString "within"))=false:=by decide +kernel
theorem b4W:((Str.ofString "start") == (Str.ofString "at"))=false:=by decide +kernel
theorem b2C:((Str.ofString "start") == (Str.ofString "out"))=false:=by decide +kernel
theorem c0B:PyData.strOk (Str.ofString "short")=true:=by decide +kernel
theorem b1f:((Str.ofString "short") == (Str.ofString "step"))=false:=by decide +kernel
theorem b1c:((Str.ofString "short") == (Str.ofString "call"))=false:=by decide +kernel
theorem b5c:((Str.ofString "short") == (Str.ofString "in"))=false:=by decide +kernel
theorem b1h:((Str.ofString "short") == (Str.ofString "over"))=false:=by decide +kernel
theorem b0i:((Str.ofString "short") == (Str.ofString "begin"))=false:=by decide +kernel
theorem a8v:((Str.ofString "short") == (Str.ofString "start"))=false:=by decide +kernel
theorem a8E:((Str.ofString "short") == (Str.ofString "short"))=true:=by decide +kernel
theorem a9a:((Str.ofString "short") == (Str.ofString "along"))=false:=by decide +kernel
theorem a6Q:((Str.ofString "short") == (Str.ofString "within"))=false:=by decide +kernel
theorem b4K:((Str.ofString "short") == (Str.ofString "at"))=false:=by decide +kernel
theorem b3s:((Str.ofString "short") == (Str.ofString "out"))=false:=by decide +kernel
theorem b9u:PyData.strOk (Str.ofString "along")=true:=by decide +kernel
theorem b0W:((Str.ofString "along") == (Str.ofString "step"))=false:=by decide +kernel
theorem b1t:((Str.ofString "along") == (Str.ofString "call"))=false:=by decide +kernel
theorem b4S:((Str.ofString "along") == (Str.ofString "in"))=false:=by decide +kernel
theorem b1p:((Str.ofString "along") == (Str.ofString "over"))=false:=by decide +kernel
theorem a9Z:((Str.ofString "along") == (Str.ofString "begin"))=false:=by decide +kernel
theorem a6Y:((Str.ofString "along") == (Str.ofString "start"))=false:=by decide +kernel
theorem a7v:((Str.ofString "along") == (Str.ofString "short"))=false:=by decide +kernel
theorem a8C:((Str.ofString "along") == (Str.ofString "along"))=true:=by decide +kernel
theorem a6L:((Str.ofString "along") == (Str.ofString "within"))=false:=by decide +kernel
theorem b5l:((Str.ofString "along") == (Str.ofString "at"))=false:=by decide +kernel
theorem b2h:((Str.ofString "along") == (Str.ofString "out"))=false:=by decide +kernel
theorem a6w:PyData.strOk (Str.ofString "within")=true:=by decide +kernel
theorem a9w:((Str.ofString "within") == (Str.ofString "step"))=false:=by decide +kernel
theorem a9d:((Str.ofString "within") == (Str.ofString "call"))=false:=by decide +kernel
theorem b2S:((Str.ofString "within") == (Str.ofString "in"))=false:=by decide +kernel
theorem a9q:((Str.ofString "within") == (Str.ofString "over"))=false:=by decide +kernel
theorem a6R:((Str.ofString "within") == (Str.ofString "begin"))=false:=by decide +kernel
theorem a6M:((Str.ofString "within") == (Str.ofString "start"))=false:=by decide +kernel
theorem a6T:((Str.ofString "within") == (Str.ofString "short"))=false:=by decide +kernel
theorem a6O:((Str.ofString "within") == (Str.ofString "along"))=false:=by decide +kernel
theorem a5Y:((Str.ofString "within") == (Str.ofString "within"))=true:=by decide +kernel
theorem b2J:((Str.ofString "within") == (Str.ofString "at"))=false:=by decide +kernel
theorem b1z:((Str.ofString "within") == (Str.ofString "out"))=false:=by decide +kernel
theorem c2q:PyData.strOk (Str.ofString "at")=true:=by decide +kernel
theorem b7H:((Str.ofString "at") == (Str.ofString "step"))=false:=by decide +kernel
theorem b8b:((Str.ofString "at") == (Str.ofString "call"))=false:=by decide +kernel
theorem b9z:((Str.ofString "at") == (Str.ofString "in"))=false:=by decide +kernel
theorem b7j:((Str.ofString "at") == (Str.ofString "over"))=false:=by decide +kernel
theorem b4L:((Str.ofString "at") == (Str.ofString "begin"))=false:=by decide +kernel
theorem b5m:((Str.ofString "at") == (Str.ofString "start"))=false:=by decide +kernel
theorem b5o:((Str.ofString "at") == (Str.ofString "short"))=false:=by decide +kernel
theorem b4P:((Str.ofString "at") == (Str.ofString "along"))=false:=by decide +kernel
theorem b3K:((Str.ofString "at") == (Str.ofString "within"))=false:=by decide +kernel
theorem c0F:((Str.ofString "at") == (Str.ofString "at"))=true:=by decide +kernel
theorem b8W:((Str.ofString "at") == (Str.ofString "out"))=false:=by decide +kernel
theorem c1A:PyData.strOk (Str.ofString "out")=true:=by decide +kernel
theorem b4N:((Str.ofString "out") == (Str.ofString "step"))=false:=by decide +kernel
theorem b5k:((Str.ofString "out") == (Str.ofString "call"))=false:=by decide +kernel
theorem b9e:((Str.ofString "out") == (Str.ofString "in"))=false:=by decide +kernel
theorem b5i:((Str.ofString "out") == (Str.ofString "over"))=false:=by decide +kernel
theorem b3M:((Str.ofString "out") == (Str.ofString "begin"))=false:=by decide +kernel
theorem b4v:((Str.ofString "out") == (Str.ofString "start"))=false:=by decide +kernel
theorem b3i:((Str.ofString "out") == (Str.ofString "short"))=false:=by decide +kernel
theorem b2j:((Str.ofString "out") == (Str.ofString "along"))=false:=by decide +kernel
theorem b1r:((Str.ofString "out") == (Str.ofString "within"))=false:=by decide +kernel
theorem b9c:((Str.ofString "out") == (Str.ofString "at"))=false:=by decide +kernel
theorem b7b:((Str.ofString "out") == (Str.ofString "out"))=true:=by decide +kernel
end CM
namespace CM
open PySem L2 DL
inductive c2o where
 |step (t:List Nat) | call (g:Nat) (into back over:List Nat)
structure Edge where
 p:Nat
 q:Nat
 cost:Nat
 k:c2o
structure Fn where
 places:Nat
 facts:Nat
 edges:List Edge
abbrev d9:=List Fn
inductive Mv where | step | over | inn
 deriving DecidableEq
def Mv.w:Mv->Str | .step=> "step" | .over=> "over" | .inn=> "in"
inductive Clm where
 |within (f a p d c:Nat) | at (f p d c:Nat)
inductive Row where
 |begin (f d:Int) | mv (w:Mv) (k n e:Int) | short (k n j e:Int) | start (d:Int) | along (k j:Int)
abbrev nD(n:Nat):D:=.int (n:Int)
def tD(t:List Nat):D:=.tup (t.map nD)
def eD(e:Edge):D:=match e.k with
 |.step t=>.tup [.str "step",nD e.p,nD e.q,nD e.cost,tD t]
 |.call g i b o=>.tup [.str "call",nD e.p,nD e.q,nD e.cost,nD g,tD i,tD b,tD o]
def clD:Clm->D
 |.within f a p d c=>.tup [.str "within",nD f,nD a,nD p,nD d,nD c]
 |.at f p d c=>.tup [.str "at",nD f,nD p,nD d,nD c]
def rD:Row->D
 |.begin f d=>.tup [.str "begin",.int f,.int d]
 |.mv w k n e=>.tup [.str w.w,.int k,.int n,.int e]
 |.short k n j e=>.tup [.str "short",.int k,.int n,.int j,.int e]
 |.start d=>.tup [.str "start",.int d]
 |.along k j=>.tup [.str "along",.int k,.int j]
def oD{α:Type}(f:α->D):Option α->D | none=>.non | some a=>f a
def Edge.word(e:Edge):Str:=match e.k with | .step _=> "step" | .call _ _ _ _=> "call"
def Edge.isStep(e:Edge):Bool:=match e.k with | .step _=>true | .call _ _ _ _=>false
theorem b7c(h:Hh)(e:Edge):ixD h (eD e) (.int 0)=some (.str e.word):=by
 unfold eD Edge.word;cases e.k <;> exact b9P ..
theorem c2e(h:Hh)(e:Edge):ixD h (eD e) (.int 1)=some (nD e.p):=by
 unfold eD;cases e.k <;> exact c0T ..
theorem b2K(h:Hh)(e:Edge):ixD h (eD e) (.int 2)=some (nD e.q):=by
 unfold eD;cases e.k <;> exact c0N ..
theorem b3E(h:Hh)(e:Edge):ixD h (eD e) (.int 3)=some (nD e.cost):=by
 unfold eD;cases e.k <;> exact b9I ..
theorem b7n(e:Edge):L7 (eD e)=false:=by unfold eD;cases e.k <;> rfl
theorem b1G(c:Clm):L7 (clD c)=false:=by cases c <;> rfl
def tOk(t:List Nat)(n m:Nat):Prop:=t.length=n/\∀ x ∈ t,x < 2 ^ m
def eOk(C:d9)(F:Fn)(e:Edge):Prop:=e.p < F.places/\e.q < F.places/\1 <= e.cost/\e.cost <= 10 ^ 18/\match e.k with
 |.step t=>tOk t F.facts F.facts
 |.call g i b o=>∃ G,C[g]?=some G/\tOk i F.facts G.facts/\tOk b G.facts F.facts/\tOk o F.facts F.facts
structure WF(C:d9):Prop where
 one:1 <= C.length
 six:C.length <= 6
 fn:∀ (f:Nat) (F:Fn),C[f]?=some F->1 <= F.places/\F.places <= 10/\1 <= F.facts/\F.facts <= 6/\F.edges.length <= 100/\∀ e ∈ F.edges,eOk C F e
def ChD(h:Hh)(d:D)(C:d9):Prop:=∃ fs,A4 h d=some fs/\fs.length=C.length/\∀ (i:Nat) (F:Fn),C[i]?=some F->∃ e,fs[i]?=some (.tup [nD F.places,nD F.facts,e])/\A4 h e=some (F.edges.map eD)
theorem ChD.mono{h h':Hh}{d:D}{C:d9}(p:Pre h h')(c:ChD h d C):ChD h' d C:=by
 obtain ⟨fs,h1,h2,h3⟩:=c;exact ⟨fs,p.ls h1,h2,fun i F e=>let ⟨x,a,b⟩:=h3 i F e;⟨x,a,p.ls b⟩⟩
theorem ChD.fn{h:Hh}{d:D}{C:d9}(c:ChD h d C){f:Nat}{F:Fn}(e:C[f]?=some F):∃ x,ixD h d (nD f)=some (.tup [nD F.places,nD F.facts,x])/\A4 h x=some (F.edges.map eD):=by
 obtain ⟨fs,h1,h2,h3⟩:=c;obtain ⟨x,a,b⟩:=h3 f F e;exact ⟨x,by rw [A6 h1,atN];exact a,b⟩
theorem ChD.len{h:Hh}{d:D}{C:d9}(c:ChD h d C):a3V h d=some C.length:=by
 obtain ⟨fs,h1,h2,h3⟩:=c;rw [y0 h1,h2]
def fD(F:Fn):D:=.tup [nD F.places,nD F.facts,.lst (F.edges.map eD)]
def cD(C:d9):D:=.lst (C.map fD)
theorem ChD.of(h:Hh)(C:d9):ChD h (cD C) C:=⟨C.map fD,rfl,by simp,fun i F e=>⟨.lst (F.edges.map eD),by rw [List.getElem?_map,e];rfl,rfl⟩⟩
theorem c0P(x:Nat):Builtin.bitAnd (x:Int) 1=((x % 2:Nat):Int):=by
 unfold Builtin.bitAnd;rw [decide_eq_true (show (0:Int) <= (x:Int) by omega),decide_eq_true (show (0:Int) <= 1 by decide)];show (((x:Int).toNat &&& (1:Int).toNat:Nat):Int)=_;have e1:((x:Int).toNat)=x:=by omega
 have e2:((1:Int).toNat)=1:=rfl;rw [e1,e2,Nat.and_one_is_mod]
theorem b3m(m d:Nat):(m:Int) / 2 ^ d=((m / 2 ^ d:Nat):Int):=by
 have e:(2:Int) ^ d=((2 ^ d:Nat):Int):=by simp
 rw [e];exact (Int.natCast_ediv m (2 ^ d)).symm
theorem c1x(m d:Nat):Builtin.bitAnd ((m:Int) / 2 ^ d) 1=if m.testBit d then 1 else 0:=by
 rw [b3m,c0P,Nat.testBit_eq_decide_div_mod_eq]
 have:=Nat.mod_two_eq_zero_or_one (m / 2 ^ d)
 rcases this with h | h <;> simp [h]
theorem b9S(m d:Nat):(Builtin.bitAnd ((m:Int) / 2 ^ d) 1 != 0)=m.testBit d:=by
 rw [c1x];cases m.testBit d <;> rfl
theorem b3o(a b:Nat):Builtin.bitOr (a:Int) (b:Int)=((a ||| b:Nat):Int):=by
 unfold Builtin.bitOr Builtin.bitAnd Builtin.bitNot;rw [decide_eq_false (show ¬ (0:Int) <= -(a:Int) - 1 by omega),decide_eq_false (show ¬ (0:Int) <= -(b:Int) - 1 by omega)];dsimp only;rw [show (-(-(a:Int) - 1) - 1).toNat=a by omega,show (-(-(b:Int) - 1) - 1).toNat=b by omega];omega
theorem a1Y(t:List Nat):nrD (tD t)=true:=F2 (fun _=>rfl) t
theorem a4i(e:Edge):nrD (eD e)=true:=by
 unfold eD
 cases e.k with
 |step t=>show (true && (true && (true && (true && (nrD (tD t) && true)))))=true;rw [a1Y];rfl
 |call g i b o=>show (true && (true && (true && (true && (true && (nrD (tD i) && (nrD (tD b) && (nrD (tD o) && true))))))))=true;rw [a1Y,a1Y,a1Y];rfl
theorem b6x(F:Fn):nrD (fD F)=true:=by
 show (true && (true && (G7 (F.edges.map eD) && true)))=true;rw [F2 a4i];rfl
theorem b5A(C:d9):nrD (cD C)=true:=F2 b6x C
def k8(m:Nat):List Nat:=(List.range (Builtin.Int.intBits (m:Int))).filter fun d=>m.testBit d
theorem a5D{m n:Nat}(h:m < 2 ^ n):Builtin.Int.intBits (m:Int) <= n:=intBits_le_iff.mpr (by simpa using h)
theorem a7n{m e:Nat}(h:Builtin.Int.intBits (m:Int) <= e):m.testBit e=false:=by
 have:=intBits_le_iff.mp h
 exact Nat.testBit_lt_two_pow (by simpa using this)
theorem mem_facts{m e:Nat}:e ∈ k8 m ↔ m.testBit e=true:=by
 unfold k8;rw [List.mem_filter,List.mem_range];refine ⟨fun q=>q.2,fun q=>⟨?_,q⟩⟩
 rcases Nat.lt_or_ge e (Builtin.Int.intBits (m:Int)) with x | x
 ·exact x
 ·rw [a7n x] at q;cases q
def br(t:List Nat)(d:Nat)(e:Int):Bool:=decide (0 <= e) && (t.getD d 0).testBit e.toNat
theorem a6u(m:Nat)(e:Int):inF (.int e) ((k8 m).map nD)=(decide (0 <= e) && m.testBit e.toNat):=by
 rw [Bool.eq_iff_iff];unfold inF;rw [List.any_map,List.any_eq_true,Bool.and_eq_true,decide_eq_true_iff]
 constructor
 ·rintro ⟨x,hx,he⟩
  have he:(x:Int)=e:=by simpa [eqF] using he
  subst he;exact ⟨by omega,by simpa using mem_facts.mp hx⟩
 ·rintro ⟨h0,hb⟩
  exact ⟨e.toNat,mem_facts.mpr hb,by simp [eqF];omega⟩
theorem a1I(ns:List Nat):(ns.map nD).all a1y=true:=by
 rw [List.all_map];simp [a1y,List.all_eq_true]
theorem tOk.get{t:List Nat}{n m d:Nat}(h:tOk t n m)(hd:d < n):t[d]?=some (t.getD d 0)/\t.getD d 0 < 2 ^ m:=by
 obtain ⟨h1,h2⟩:=h;have hl:d < t.length:=by omega
 rw [List.getD_eq_getElem?_getD,List.getElem?_eq_getElem hl];exact ⟨rfl,h2 _ (List.getElem_mem hl)⟩
theorem a5A(h:Hh){t:List Nat}{n m d:Nat}(ht:tOk t n m)(hd:d < n):ixD h (tD t) (nD d)=some (nD (t.getD d 0)):=by
 show atI (t.map nD) (d:Int)=_;rw [atN,List.getElem?_map,(ht.get hd).1];rfl
theorem a2S{x m:Nat}(hx:x < 2 ^ m)(hm:m <= 6):x < 64:=Nat.lt_of_lt_of_le hx (Nat.pow_le_pow_right (n:=2) (by decide) hm)
def F1(C:d9)(f:Nat)(n:Int):Option Edge:=if 0 <= n then (C[f]?).bind fun F=>F.edges[n.toNat]? else none
def Edge.tab(e:Edge)(w:Mv):List Nat:=match w,e.k with
 |.step,.step t=>t
 |.inn,.call _ i _ _=>i
 |.over,.call _ _ _ o=>o
 |_,_=>[]
def n4(C:d9)(f p d:Nat)(w:Mv)(n e:Int):Option Edge:=(F1 C f n).bind fun E=>if (E.isStep == (w == .step))=true/\E.p=p/\br (E.tab w) d e=true then some E else none
def i8(cs:List Clm)(k:Int):Option Clm:=if 0 <= k then cs[k.toNat]? else none
def f9(C:d9)(st:Nat)(cs:List Clm):Row->Option Clm
 |.begin f d=>if 0 <= f/\0 <= d then (C[f.toNat]?).bind fun F=>if d < F.facts then some (.within f.toNat d.toNat 0 d.toNat 0) else none else none
 |.start d=>if 0 <= d then (C[0]?).bind fun F=>if d < F.facts/\st.testBit d.toNat=true then some (.at 0 0 d.toNat 0) else none else none
 |.mv .inn k n e=>match i8 cs k with
  |some (.at f p d c)=>(n4 C f p d .inn n e).bind fun E=>match E.k with | .call g _ _ _=>some (.at g 0 e.toNat (c + E.cost)) | _=>none
  |_=>none
 |.mv w k n e=>match i8 cs k with
  |some (.within f a p d c)=>(n4 C f p d w n e).map fun E=>.within f a E.q e.toNat (c + E.cost)
  |_=>none
 |.short k n j e=>match i8 cs k,i8 cs j with
  |some (.within f a p d c),some (.within g b x y c')=>(n4 C f p d .inn n b).bind fun E=>match E.k with
   |.call g' _ bk _=>(C[g']?).bind fun G=>if g'=g/\x + 1=G.places/\br bk y e=true then some (.within f a E.q e.toNat (c + E.cost + c')) else none
   |_=>none
  |_,_=>none
 |.along k j=>match i8 cs k,i8 cs j with
  |some (.at f p a c),some (.within g b q d c')=>if p=0/\g=f/\b=a then some (.at f q d (c + c')) else none
  |_,_=>none
theorem E6{C:d9}{f p d:Nat}{w:Mv}{n e:Int}{E:Edge}(ht:n4 C f p d w n e=some E):F1 C f n=some E/\(E.isStep == (w == .step))=true/\E.p=p/\br (E.tab w) d e=true/\0 <= e:=by
 unfold n4 at ht
 cases q3:F1 C f n with
 |none=>rw [q3] at ht;cases ht
 |some E' =>
  rw [q3] at ht;have ht:(if (E'.isStep == (w == .step))=true/\E'.p=p/\br (E'.tab w) d e=true then some E' else none)=some E:=ht
  split at ht
  ·rename_i z;cases ht;refine ⟨rfl,z.1,z.2.1,z.2.2,?_⟩
   have:=z.2.2
   unfold br at this;rw [Bool.and_eq_true] at this;exact of_decide_eq_true this.1
  ·cases ht
theorem E7{C:d9}{f:Nat}{n:Int}{E:Edge}(h:F1 C f n=some E):∃ F,0 <= n/\C[f]?=some F/\F.edges[n.toNat]?=some E:=by
 unfold F1 at h
 split at h
 ·rename_i h0
  cases q:C[f]? with
  |none=>rw [q] at h;cases h
  |some F=>rw [q] at h;exact ⟨F,h0,rfl,h⟩
 ·cases h
theorem N7{C:d9}(wf:WF C){f p d:Nat}{n e:Int}{E:Edge}(ht:n4 C f p d .inn n e=some E):∃ F g i b o G,C[f]?=some F/\E.k = .call g i b o/\C[g]?=some G/\tOk i F.facts G.facts/\tOk b G.facts F.facts/\tOk o F.facts F.facts/\E.q < F.places/\E.p=p/\br i d e=true/\0 <= e:=by
 obtain ⟨h1,h2,h3,h4,h5⟩:=E6 ht;obtain ⟨F,h0,hF,hE⟩:=E7 h1;obtain ⟨o1,o2,o3,o4,o5⟩:=(wf.fn f F hF).2.2.2.2.2 E (List.mem_of_getElem? hE);obtain ⟨p',q',c',k'⟩:=E
 cases k' with
 |step t=>cases h2
 |call g i b o =>
  obtain ⟨G,hG,t1,t2,t3⟩:=o5;exact ⟨F,g,i,b,o,G,hF,rfl,hG,t1,t2,t3,o2,h3,h4,h5⟩
def Z0(C:d9):Clm->Prop
 |.within f a p d _=>∃ F,C[f]?=some F/\a < F.facts/\p < F.places/\d < F.facts
 |.at f p d _=>∃ F,C[f]?=some F/\p < F.places/\d < F.facts
theorem A3{C:d9}{cs:List Clm}(ok:∀ c ∈ cs,Z0 C c){k:Int}{c:Clm}(h:i8 cs k=some c):Z0 C c:=by
 unfold i8 at h
 split at h
 ·exact ok c (List.mem_of_getElem? h)
 ·cases h
def p9(C:d9)(st:Nat):List Row->List Clm->Option (List Clm)
 |[],cs=>some cs
 |r :: rs,cs=>(f9 C st cs r).bind fun c=>p9 C st rs (cs ++ [c])
theorem S8{C:d9}(wf:WF C){st:Nat}{cs:List Clm}{r:Row}{c:Clm}(ok:∀ c ∈ cs,Z0 C c)(h:f9 C st cs r=some c):Z0 C c:=by
 have bt:∀ {t:List Nat} {n m d:Nat} {e:Int},tOk t n m->d < n->br t d e=true->e.toNat < m:=fun {t n m d e} ht hd hb=>by
  unfold br at hb;rw [Bool.and_eq_true] at hb;have hx:=(ht.get hd).2
  rcases Nat.lt_or_ge e.toNat m with z | z
  ·exact z
  ·rw [Nat.testBit_lt_two_pow (Nat.lt_of_lt_of_le hx (Nat.pow_le_pow_right (by decide) z))] at hb;exact absurd hb.2 Bool.false_ne_true
 cases r with
 |begin f d =>
  have h:(if 0 <= f/\0 <= d then (C[f.toNat]?).bind fun F=>if d < F.facts then some (Clm.within f.toNat d.toNat 0 d.toNat 0) else none else none)=some c:=h
  split at h
  ·rename_i z
   cases q:C[f.toNat]? with
   |none=>rw [q] at h;cases h
   |some F =>
    rw [q] at h;have h:(if d < F.facts then some (Clm.within f.toNat d.toNat 0 d.toNat 0) else none)=some c:=h
    split at h
    ·cases h;exact ⟨F,q,by omega,(wf.fn _ F q).1,by omega⟩
    ·cases h
  ·cases h
 |start d =>
  have h:(if 0 <= d then (C[0]?).bind fun F=>if d < F.facts/\st.testBit d.toNat=true then some (Clm.at 0 0 d.toNat 0) else none else none)=some c:=h
  split at h
  ·cases q:C[0]? with
   |none=>rw [q] at h;cases h
   |some F =>
    rw [q] at h;have h:(if d < F.facts/\st.testBit d.toNat=true then some (Clm.at 0 0 d.toNat 0) else none)=some c:=h
    split at h
    ·rename_i z z2
     cases h;exact ⟨F,q,(wf.fn _ F q).1,by omega⟩
    ·cases h
  ·cases h
 |mv w k n e =>
  cases w with
  |inn =>
   have h:(match i8 cs k with
    |some (.at f p d c)=>(n4 C f p d .inn n e).bind fun E=>match E.k with | .call g _ _ _=>some (Clm.at g 0 e.toNat (c + E.cost)) | _=>none
    |_=>none)=some c:=h
   cases q:i8 cs k with
   |none=>rw [q] at h;cases h
   |some x =>
    rw [q] at h
    cases x with
    |within f a p d x=>cases h
    |«at» f p d x =>
     obtain ⟨F,hF,o1,o2⟩:=A3 ok q;dsimp only at h
     cases ht:n4 C f p d .inn n e with
     |none=>rw [ht] at h;cases h
     |some E =>
      rw [ht] at h;obtain ⟨F',g,i,b,o,G,hF',hk',hG,t1,t2,t3,_,_,hb,_⟩:=N7 wf ht;rw [hF] at hF';cases hF'
      have h:(match E.k with | .call g _ _ _=>some (Clm.at g 0 e.toNat (x + E.cost)) | _=>none)=some c:=h;rw [hk'] at h;cases h;exact ⟨G,hG,(wf.fn g G hG).1,bt t1 o2 hb⟩
  |step =>
   have h:(match i8 cs k with | some (.within f a p d c)=>(n4 C f p d .step n e).map fun E=>Clm.within f a E.q e.toNat (c + E.cost) | _=>none)=some c:=h
   cases q:i8 cs k with
   |none=>rw [q] at h;cases h
   |some x =>
    rw [q] at h
    cases x with
    |«at» f p d x=>cases h
    |within f a p d x =>
     obtain ⟨F,hF,o1,o2,o3⟩:=A3 ok q;dsimp only at h
     cases ht:n4 C f p d .step n e with
     |none=>rw [ht] at h;cases h
     |some E =>
      rw [ht] at h;cases h;obtain ⟨h1,h2,h3,h4,h5⟩:=E6 ht;obtain ⟨F',_,hF',hE⟩:=E7 h1;rw [hF] at hF';cases hF'
      obtain ⟨e1,e2,e3,e4,e5⟩:=(wf.fn f F hF).2.2.2.2.2 E (List.mem_of_getElem? hE);obtain ⟨ep,eq,ec,ek⟩:=E
      cases ek with
      |step t=>exact ⟨F,hF,o1,e2,bt e5 o3 h4⟩
      |call g i b o=>cases h2
  |over =>
   have h:(match i8 cs k with | some (.within f a p d c)=>(n4 C f p d .over n e).map fun E=>Clm.within f a E.q e.toNat (c + E.cost) | _=>none)=some c:=h
   cases q:i8 cs k with
   |none=>rw [q] at h;cases h
   |some x =>
    rw [q] at h
    cases x with
    |«at» f p d x=>cases h
    |within f a p d x =>
     obtain ⟨F,hF,o1,o2,o3⟩:=A3 ok q;dsimp only at h
     cases ht:n4 C f p d .over n e with
     |none=>rw [ht] at h;cases h
     |some E =>
      rw [ht] at h;cases h;obtain ⟨h1,h2,h3,h4,h5⟩:=E6 ht;obtain ⟨F',_,hF',hE⟩:=E7 h1;rw [hF] at hF';cases hF'
      obtain ⟨e1,e2,e3,e4,e5⟩:=(wf.fn f F hF).2.2.2.2.2 E (List.mem_of_getElem? hE);obtain ⟨ep,eq,ec,ek⟩:=E
      cases ek with
      |step t=>cases h2
      |call g i b o =>
       obtain ⟨G,hG,t1,t2,t3⟩:=e5;exact ⟨F,hF,o1,e2,bt t3 o3 h4⟩
 |short k n j e =>
  have h:(match i8 cs k,i8 cs j with
   |some (.within f a p d c),some (.within g b x y c')=>(n4 C f p d .inn n b).bind fun E=>match E.k with
    |.call g' _ bk _=>(C[g']?).bind fun G=>if g'=g/\x + 1=G.places/\br bk y e=true then some (Clm.within f a E.q e.toNat (c + E.cost + c')) else none
    |_=>none
   |_,_=>none)=some c:=h
  cases q:i8 cs k with
  |none=>rw [q] at h;cases h
  |some x1 =>
   cases q2:i8 cs j with
   |none=>rw [q,q2] at h;cases x1 <;> cases h
   |some x2 =>
    rw [q,q2] at h
    cases x1 with
    |«at» f p d x=>cases h
    |within f a p d x =>
     cases x2 with
     |«at» f p d x=>cases h
     |within g b px y x' =>
      obtain ⟨F,hF,o1,o2,o3⟩:=A3 ok q;obtain ⟨G,hG,p1,p2,p3⟩:=A3 ok q2;dsimp only at h
      cases ht:n4 C f p d .inn n b with
      |none=>rw [ht] at h;cases h
      |some E =>
       rw [ht] at h;obtain ⟨F',g',i,bk,o,G',hF',hk',hG',t1,t2,t3,eq,_,hb,_⟩:=N7 wf ht;rw [hF] at hF';cases hF'
       have h:(match E.k with
        |.call g' _ bk _=>(C[g']?).bind fun G=>if g'=g/\px + 1=G.places/\br bk y e=true then some (Clm.within f a E.q e.toNat (x + E.cost + x')) else none
        |_=>none)=some c:=h
       rw [hk'] at h;have h:((C[g']?).bind fun G=>if g'=g/\px + 1=G.places/\br bk y e=true then some (Clm.within f a E.q e.toNat (x + E.cost + x')) else none)=some c:=h;rw [hG'] at h;have h:(if g'=g/\px + 1=G'.places/\br bk y e=true then some (Clm.within f a E.q e.toNat (x + E.cost + x')) else none)=some c:=h
       by_cases z:g'=g/\px + 1=G'.places/\br bk y e=true
       ·rw [if_pos z] at h;have h9:=Option.some.inj h;obtain ⟨z1,z2,z3⟩:=z;subst z1;rw [hG] at hG';cases hG'
        rw [<- h9];exact ⟨F,hF,o1,eq,bt t2 p3 z3⟩
       ·rw [if_neg z] at h;cases h
 |along k j =>
  have h:(match i8 cs k,i8 cs j with | some (.at f p a c),some (.within g b q d c')=>if p=0/\g=f/\b=a then some (Clm.at f q d (c + c')) else none | _,_=>none)=some c:=h
  cases q:i8 cs k with
  |none=>rw [q] at h;cases h
  |some x1 =>
   cases q2:i8 cs j with
   |none=>rw [q,q2] at h;cases x1 <;> cases h
   |some x2 =>
    rw [q,q2] at h
    cases x1 with
    |within f a p d x=>cases h
    |«at» f p d x =>
     cases x2 with
     |«at» f p d x=>cases h
     |within g b px y x' =>
      obtain ⟨G,hG,p1,p2,p3⟩:=A3 ok q2;have h:(if p=0/\g=f/\b=d then some (Clm.at f px y (x + x')) else none)=some c:=h
      split at h
      ·rename_i z;obtain ⟨z1,z2,z3⟩:=z;subst z2;cases h;exact ⟨G,hG,p2,p3⟩
      ·cases h
theorem P8{C:d9}{st:Nat}:∀ {rs:List Row} {cs ds:List Clm},p9 C st rs cs=some ds->ds.length=cs.length + rs.length
 |[],cs,ds,h=>by cases h;simp
 |r :: rs,cs,ds,h=>by
  have h:((f9 C st cs r).bind fun c=>p9 C st rs (cs ++ [c]))=some ds:=h
  cases q:f9 C st cs r with
  |none=>rw [q] at h;cases h
  |some c =>
   rw [q] at h
   have:=P8 (rs:=rs) h
   rw [this];simp;omega
end CM
namespace CM
open PySem L2 DL
def Pd(h:Hh)(d:D)(p:PyData)(n:Nat):Prop:=IsP h d p/\p.canLay0=true/\p.depth <= n
def Pds(h:Hh)(ds:List D)(ps:List PyData)(n:Nat):Prop:=a4f h ds ps/\PyData.canLayAll0 ps=true/\PyData.depthAll ps <= n
theorem Pd.int{h:Hh}{n:Nat}(i:Int):Pd h (.int i) (.int i) n:=⟨.int i,rfl,Nat.zero_le _⟩
theorem Pd.str{h:Hh}{n:Nat}{x:Str}(e:PyData.strOk x=true):Pd h (.str x) (.str x) n:=⟨.str x,e,Nat.zero_le _⟩
theorem Pds.nil{h:Hh}{n:Nat}:Pds h [] [] n:=⟨.nil,rfl,Nat.zero_le _⟩
theorem Pds.cons{h:Hh}{n:Nat}{d:D}{p:PyData}{ds:List D}{ps:List PyData}(a:Pd h d p n)(b:Pds h ds ps n):Pds h (d :: ds) (p :: ps) n :=
 ⟨.cons a.1 b.1,by show (p.canLay0 && PyData.canLayAll0 ps)=true;rw [a.2.1,b.2.1];rfl,by show max p.depth (PyData.depthAll ps) <= n;exact Nat.max_le.mpr ⟨a.2.2,b.2.2⟩⟩
theorem Pd.tup{h:Hh}{n:Nat}{ds:List D}{ps:List PyData}(a:Pds h ds ps n):Pd h (.tup ds) (.tuple ps) (n + 1):=⟨.tup a.1,a.2.1,Nat.succ_le_succ a.2.2⟩
theorem Pd.lst{h:Hh}{n:Nat}{ds:List D}{ps:List PyData}(a:Pds h ds ps n):Pd h (.lst ds) (.list ps) (n + 1):=⟨.lst a.1,a.2.1,Nat.succ_le_succ a.2.2⟩
theorem Pds.map{τ:Type}{h:Hh}{n:Nat}{f:τ->D}{g:τ->PyData}:∀ {xs:List τ},(∀ x,Pd h (f x) (g x) n)->Pds h (xs.map f) (xs.map g) n
 |[],_=>.nil
 |x :: xs,k=>.cons (k x) (Pds.map k)
theorem Pds.get{h:Hh}{n:Nat}:∀ {ds:List D} {ps:List PyData},ds.length=ps.length->(∀ (i:Nat) (d:D) (p:PyData),ds[i]?=some d->ps[i]?=some p->Pd h d p n)->Pds h ds ps n
 |[],[],_,_=>.nil
 |d :: ds,p :: ps,e,k=>.cons (k 0 d p rfl rfl) (Pds.get (by simpa using e) fun i a b h1 h2=>k (i + 1) a b (by simpa using h1) (by simpa using h2))
theorem Pd.shaped{h:Hh}{n:Nat}{d:D}{p:PyData}(a:Pd h d p n)(e:n <= 64):SeqAt.shaped p=true:=by
 unfold SeqAt.shaped;rw [a.2.1,decide_eq_true (Nat.le_trans a.2.2 e)];rfl
theorem a2P{neg:Bool}{x y:D}{h:Hh}{Q:DK}{p:PyData}{n:Nat}(e:eqS x y=none)(a:Pd h x p n)(b:Pd h y p n)(hn:n <= 64)(q:Q (.bl (!neg)) h):pEq neg x y h Q:=by
 unfold pEq;rw [e];refine ⟨p,p,a.1,b.1,a.shaped hn,b.shaped hn,?_⟩;rw [SeqAt.eqv_refl p a.2.1]
 cases neg <;> exact q
def tP(t:List Nat):PyData:=.tuple (t.map fun x:Nat=>.int (x:Int))
def eP(e:Edge):PyData:=match e.k with
 |.step t=>.tuple [.str "step",.int e.p,.int e.q,.int e.cost,tP t]
 |.call g i b o=>.tuple [.str "call",.int e.p,.int e.q,.int e.cost,.int g,tP i,tP b,tP o]
theorem b1H(h:Hh)(t:List Nat):Pd h (tD t) (tP t) 1:=Pd.tup (n:=0) (Pds.map fun x=>.int _)
theorem c1W(h:Hh)(e:Edge):Pd h (eD e) (eP e) 2:=by
 unfold eD eP
 cases e.k with
 |step t=>exact .tup (.cons (.str b2n) (.cons (.int _) (.cons (.int _) (.cons (.int _) (.cons (b1H h t) .nil)))))
 |call g i b o=>exact .tup (.cons (.str b3J) (.cons (.int _) (.cons (.int _) (.cons (.int _) (.cons (.int _) (.cons (b1H h i) (.cons (b1H h b) (.cons (b1H h o) .nil))))))))
def fP(F:Fn):PyData:=.tuple [.int F.places,.int F.facts,.list (F.edges.map eP)]
theorem c2b(h:Hh)(F:Fn):Pd h (fD F) (fP F) 4:=.tup (.cons (.int _) (.cons (.int _) (.cons (.lst (Pds.map (c1W h))) .nil)))
theorem b9N(h:Hh)(C:d9):Pd h (cD C) (.list (C.map fP)) 5:=.lst (Pds.map (c2b h))
end CM
namespace DL
open PySem PySem.Spec L2
section
variable {K:KP} {α:List Addr} {H:Hp}
theorem RelKV.look{f:Str}:∀ {ds:List (Str×D)} {us:List (Str×V)} {d:D},RelKV K α H ds us->ds.lookup f=some d->∃ u,us.lookup f=some u/\RelD K α H d u
 |_,_,_,.nil,e=>nomatch e
 |_,_,d,.cons (k:=g) r t,e=>by
  rw [List.lookup_cons] at e ⊢
  cases q:f == g with
  |true=>rw [q] at e;cases e;exact ⟨_,rfl,r⟩
  |false=>rw [q] at e;exact RelKV.look t e
theorem RelKV.lookN{f:Str}:∀ {ds:List (Str×D)} {us:List (Str×V)},RelKV K α H ds us->ds.lookup f=none->us.lookup f=none
 |_,_,.nil,_=>rfl
 |_,_,.cons (k:=g) r t,e=>by
  rw [List.lookup_cons] at e ⊢
  cases q:f == g with
  |true=>rw [q] at e;cases e
  |false=>rw [q] at e;exact RelKV.lookN t e
def putA(f:Str)(v:D):List (Str×D)->List (Str×D)
 |[]=>[(f,v)]
 |(g,x) :: r=>if g=f then (g,v) :: r else (g,x) :: putA f v r
theorem RelKV.putA{f:Str}{d:D}{u:V}(h:RelD K α H d u):∀ {ds:List (Str×D)} {us:List (Str×V)},RelKV K α H ds us->RelKV K α H (putA f d ds) (G1 f u us)
 |_,_,.nil=>.cons h .nil
 |_,_,.cons (k:=g) (d:=d') (u:=u') (ds:=ds) (us:=us) r t=>by
  show RelKV K α H (if g=f then (g,d) :: ds else (g,d') :: DL.putA f d ds) (if g=f then (g,u) :: us else (g,u') :: G1 f u us)
  by_cases q:g=f
  ·rw [if_pos q,if_pos q];exact .cons h t
  ·rw [if_neg q,if_neg q];exact .cons r (RelKV.putA h t)
theorem RelKV.len{κ:Type}:∀ {ds:List (κ×D)} {us:List (κ×V)},RelKV K α H ds us->ds.length=us.length
 |_,_,.nil=>rfl
 |_,_,.cons r t=>by rw [List.length_cons,List.length_cons,RelKV.len t]
end
def a1T(cn:Str)(h:Hh):D->Option (List (Str×D))
 |.ref i=>match h[i]? with | some (.ins c fs)=>if c=cn then some fs else none | _=>none
 |_=>none
theorem u6{cn:Str}{h:Hh}{i:Nat}{fs:List (Str×D)}(e:h[i]?=some (.ins cn fs)):a1T cn h (.ref i)=some fs:=by
 show (match h[i]? with | some (.ins c fs)=>if c=cn then some fs else none | _=>none)=_;rw [e];exact if_pos rfl
theorem a9T{cn:Str}{h:Hh}{d:D}{fs:List (Str×D)}(e:a1T cn h d=some fs):∃ i,d = .ref i/\h[i]?=some (.ins cn fs):=by
 cases d with
 |ref i =>
  have e:(match h[i]? with | some (.ins c fs)=>if c=cn then some fs else none | _=>none)=some fs:=e
  cases q:h[i]? with
  |none=>rw [q] at e;cases e
  |some o =>
   rw [q] at e
   cases o with
   |ins c gs =>
    have e:(if c=cn then some gs else none)=some fs:=e
    by_cases z:c=cn
    ·rw [if_pos z] at e;cases e;subst z;exact ⟨i,rfl,q⟩
    ·rw [if_neg z] at e;cases e
   |_=>cases e
 |_=>cases e
theorem a2r{K:KP}{α:List Addr}{H:Hp}{h:Hh}{cn:Str}{d:D}{v:V}{fs:List (Str×D)}(R:HRel K α H h)(r:RelD K α H d v)(e:a1T cn h d=some fs) :
  ∃ i p C dx us,d = .ref i/\v = .ref p/\PySem.W.nsIn K.K mainGlobals cn=some (some (.ref C))/\α[i]?=some p/\H p=some (.ins C dx us)/\RelKV K α H fs us:=by
 obtain ⟨i,rfl,q⟩:=a9T e
 cases r with
 |ref hp =>
  obtain ⟨p,C,dx,us,n,e1,e2,e3⟩:=R.ins q;rw [hp] at e1;cases e1;exact ⟨i,_,C,dx,us,rfl,rfl,n,hp,e2,e3⟩
structure W2(K:PySem.W.Frag)(cn f:Str):Prop where
 ex:∃ C,PySem.W.nsIn K mainGlobals cn=some (some (.ref C))/\Cls K C/\NoAttr K C f
def p8(cn f:Str):P1:=fun d h Q=>match a1T cn h d with | some fs=>(match fs.lookup f with | some v=>Q v h | none=>False) | none=>False
def b2a(cn f:Str)(o v:D)(h:Hh)(Q:Hh->Prop):Prop:=match o with
 |.ref i=>match h[i]? with | some (.ins c fs)=>(c=cn/\fs.length < 1000)/\Q (h.set i (.ins cn (putA f v fs))) | _=>False
 |_=>False
def M7(cn f:Str)(fo fv:DE):DS:=fun E δ h=>fv δ h fun y h1=>fo δ h1 fun x h2=>b2a cn f x y h2 fun h3=>E.nx δ h3
def b4G(cn f:Str)(fo fv:DE)(p:P2):DS:=fun E δ h=>fo δ h fun x h1=>match a1T cn h1 x with
 |some fs=>match fs.lookup f with
  |some v=>fv δ h1 fun y h2=>p v y h2 fun z h3=>b2a cn f x z h3 fun h4=>E.nx δ h4
  |none=>False
 |none=>False
theorem a1l{K:PySem.W.Frag}{π α:List Addr}{H:Hp}{h:Hh}{cn f:Str}{o v:D}{ov vv:V}{Q':Hh->Prop}(R:HRel ⟨K,π⟩ α H h)(ro:RelD ⟨K,π⟩ α H o ov)(rv:RelD ⟨K,π⟩ α H v vv)(g:b2a cn f o v h Q') :
  ∃ p C dx us,ov = .ref p/\PySem.W.nsIn K mainGlobals cn=some (some (.ref C))/\H p=some (.ins C dx us)/\us.length < 1000/\∃ h',Q' h'/\Ext α H α (upd H p (.ins C dx (G1 f vv us)))/\HRel ⟨K,π⟩ α (upd H p (.ins C dx (G1 f vv us))) h':=by
 unfold b2a at g
 cases ro with
 |@ref i a hp =>
  dsimp only at g
  cases w:h[i]? with
  |none=>rw [w] at g;exact g.elim
  |some ob =>
   rw [w] at g
   cases ob with
   |ins c fs =>
    obtain ⟨⟨rfl,hl⟩,g⟩:=g;obtain ⟨p,C,dx,us,n,e1,e2,e3⟩:=R.ins w;rw [hp] at e1;cases e1;have e4:Ext α H α (upd H a (.ins C dx (G1 f vv us))):=Ext.write (List.mem_of_getElem? hp);exact ⟨a,C,dx,us,rfl,n,e2,by rw [<- e3.len];exact hl,_,g,e4,R.write hp (.ins n j7 ((RelKV.putA rv e3).mono e4))⟩
   |_=>exact g.elim
 |_=>exact g.elim
section
variable {X:Cx} {cn f:Str} {a value:Expr} {fa fv:DE} {pos pos' tpos:Pos}
theorem m7(c:W2 X.K cn f)(ha:SE X a fa)(hb:attributeBase a f X.env (eval a X.env)=eval a X.env:=by rfl):SE X (.Attribute a f pos) (dUn (p8 cn f) fa):=PE.imp (b8x ha hb) fun σ H Q ⟨π,α,δ,h,Q',R,S,g,k⟩=>by
 obtain ⟨C,hns,cl,na⟩:=c.ex;refine ⟨π,α,δ,h,_,R,S,g,fun d h1 α1 H1 v1 f1 e1 R1 q1=>?_⟩;unfold p8 at f1
 cases w:a1T cn h1 d with
 |none=>rw [w] at f1;exact f1.elim
 |some fs =>
  rw [w] at f1;dsimp only at f1
  cases l:fs.lookup f with
  |none=>rw [l] at f1;exact f1.elim
  |some v =>
   rw [l] at f1;obtain ⟨i,p,C',dx,us,rfl,rfl,n,hp,e2,e3⟩:=a2r R1 q1 w;rw [hns] at n;cases n;obtain ⟨u,l1,r1⟩:=e3.look l;exact ⟨p,C,dx,us,u,rfl,e2,cl,na,l1,k v h1 α1 H1 u f1 e1 R1 r1⟩
theorem Q1(c:W2 X.K cn f)(ha:SE X a fa)(hv:SE X value fv)(hs:swapsWith value (some (.Attribute a f pos')) pos.line X.env=pure false:=by rfl):SS X (.Assign [.Attribute a f pos'] value pos) (M7 cn f fa fv):=PS.imp (b8j ha hv hs) fun F σ H ⟨π,α,δ,h,E,R,S,q,k⟩=>by
 obtain ⟨C,hns,cl,na⟩:=c.ex;refine ⟨π,α,δ,h,_,R,S,q,fun y h1 α1 H1 v1 f1 e1 R1 q1=>?_⟩;refine ⟨π,α1,δ,h1,_,R1,S.mono e1,f1,fun x h2 α2 H2 v2 f2 e2 R2 q2=>?_⟩;obtain ⟨p,C',dx,us,rfl,n,e3,hl,h3,f3,e4,R3⟩:=a1l R2 q2 (q1.mono e2) f2;rw [hns] at n;cases n;exact ⟨p,C,dx,us,rfl,e3,cl,na,hl,k.nx δ h3 α2 _ σ f3 (e1.trans (e2.trans e4)) R3 (S.mono (e1.trans (e2.trans e4)))⟩
theorem a9z{op:Operator}{p:P2}(c:W2 X.K cn f)(ha:SE X a fa)(hv:SE X value fv)(ho:OpR X (inplaceOp op) (r2 X.K p)):SS X (.AugAssign (.Attribute a f tpos) op value pos) (b4G cn f fa fv p) :=
 PS.imp (a6r (rd:=r2 X.K p) ha hv (fun pins s σ H x y u v Q I rx ry q=>ho pins s σ H x y u v Q I rx ry q)) fun F σ H ⟨π,α,δ,h,E,R,S,q,k⟩=>by
 obtain ⟨C,hns,cl,na⟩:=c.ex;refine ⟨π,α,δ,h,_,R,S,q,fun x h1 α1 H1 v1 f1 e1 R1 q1=>?_⟩
 cases w:a1T cn h1 x with
 |none=>rw [w] at f1;exact f1.elim
 |some fs =>
  rw [w] at f1;dsimp only at f1
  cases l:fs.lookup f with
  |none=>rw [l] at f1;exact f1.elim
  |some v =>
   rw [l] at f1;obtain ⟨i,p',C',dx,us,rfl,rfl,n,hp,e2,e3⟩:=a2r R1 q1 w;rw [hns] at n;cases n;obtain ⟨u,l1,r1⟩:=e3.look l;refine ⟨p',C,dx,us,u,rfl,e2,cl,na,l1,?_⟩;refine ⟨π,α1,δ,h1,_,R1,S.mono e1,f1,fun y h2 α2 H2 v2 f2 e4 R2 q2=>?_⟩;refine ⟨π,α2,h2,v,y,_,R2,r1.mono e4,q2,f2,fun z h3 α3 H3 v3 f3 e5 R3 q3=>?_⟩;obtain ⟨p2,C2,dx',us',ep,n2,e6,hl,h4,f4,e7,R4⟩:=a1l R3 (.ref ((e4.trans e5).get hp)) q3 f3;cases ep;rw [hns] at n2;cases n2;exact ⟨dx',us',e6,hl,k.nx δ h4 α3 _ σ f4 (e1.trans (e4.trans (e5.trans e7))) R4 (S.mono (e1.trans (e4.trans (e5.trans e7))))⟩
end
structure D8(P:Program)(w:World)(K:PySem.W.Frag)(mg:Str->Option Value)(base:Heap)(k:Nat)(cn m:Str)(ps:List Str)(sp:Sp):Prop where
 ex:∃ (C f:Addr) (fd:FuncData),PySem.W.nsIn K mainGlobals cn=some (some (.ref C))/\Cls K C/\a9X K C m f/\l9 P w K mg base CX0 k f fd ps sp/\Binds K fd ps []
def a1V(cn m:Str)(h:Hh)(d:D):Prop:=match a1T cn h d with | some fs=>fs.lookup m=none | none=>False
def C3(cn m:Str)(g:DSp)(fo:DE)(f:DA):DE:=fun δ h Q=>fo δ h fun x h1=>a1V cn m h1 x/\f δ h1 fun ds h2=>g (x :: ds) h2 Q
section
variable {X:Cx} {k l:Nat} {ps:List Str} {g:DSp} {cn m:Str} {o e:Expr} {es:List Expr} {fo:DE} {f:DA} {n:Nat} {pos apos:Pos}
theorem a1s{C:Addr}{σ:L2.St}{H:Hp}{Q:VK}(hns:PySem.W.nsIn X.K mainGlobals cn=some (some (.ref C)))(hl:l=n + 1)(w:LE X.K (C3 cn m g fo f) σ H Q):a5B C m (spD X.K l g) [] E0 (LE X.K fo) (LA X.K n f) σ H Q:=by
 obtain ⟨π,α,δ,h,Q',R,S,q,k⟩:=w;refine ⟨π,α,δ,h,_,R,S,q,fun x h1 α1 H1 v1 f1 e1 R1 q1=>?_⟩;obtain ⟨hm,f1⟩:=f1;unfold a1V at hm
 cases w:a1T cn h1 x with
 |none=>rw [w] at hm;exact hm.elim
 |some fs =>
  rw [w] at hm;dsimp only at hm;obtain ⟨i,p',C',dx,us,rfl,rfl,n',hp,e2,e3⟩:=a2r R1 q1 w;rw [hns] at n';cases n'
  refine ⟨p',dx,us,rfl,e2,e3.lookN hm,π,α1,δ,h1,_,R1,S.mono e1,f1,fun ds h2 α2 H2 vs f2 e4 R2 q2 l2=>?_⟩;rw [List.append_nil];exact ⟨π,α2,h2,.ref i :: ds,Q',R2,.cons (.ref (e4.get hp)) q2,by rw [List.length_cons,l2,hl],f2,fun d h' α' H' v a b c d'=>k d h' α' H' v a (e1.trans (e4.trans b)) c d'⟩
theorem D1{pl:Sem Bool}(c:D8 X.prog X.w X.K X.mg X.base k cn m ps (spD X.K l g))(hr:Room k X.A)(ho:SE X o fo)(ha:SA X (e :: es) n f)(hl:l=n + 1:=by rfl)
  (hst:starEach (e :: es) X.env=(false,eval e X.env) :: starEach es X.env:=by rfl) (hpl:(backTo pos (starEach es X.env)).any (·.1)=false:=by rfl)
  (ht:eval (.Call (.Attribute o m apos) (e :: es) [] pos) X.env=(do
   let ov <- eval o X.env
   standAt apos.atName
   let (f,first) <- holding [ov] (getMethod ov m pl)
   callWith pos f first (backTo pos (starEach (e :: es) X.env)) (backToKw pos (keywordEach [] X.env))):=by rfl) :
  SE X (.Call (.Attribute o m apos) (e :: es) [] pos) (C3 cn m g fo f):=by
 obtain ⟨C,fa,fd,hns,cl,hm,F,hb⟩:=c.ex;exact PE.imp (b1K (pl:=pl) ho cl hm F hr hb .nil a3s ha hst hpl ht) fun σ H Q w=>a1s hns hl w
theorem O3{pl:Sem Bool}(c:D8 X.prog X.w X.K X.mg X.base k cn m ps (spD X.K 1 g))(hr:Room k X.A)(ho:SE X o fo)
  (ht:eval (.Call (.Attribute o m apos) [] [] pos) X.env=(do
   let ov <- eval o X.env
   standAt apos.atName
   let (f,first) <- holding [ov] (getMethod ov m pl)
   callWith pos f first (backTo pos (starEach [] X.env)) (backToKw pos (keywordEach [] X.env))):=by rfl) :
  SE X (.Call (.Attribute o m apos) [] [] pos) (C3 cn m g fo d7):=by
 obtain ⟨C,fa,fd,hns,cl,hm,F,hb⟩:=c.ex;refine PE.imp (a9o (pl:=pl) ho cl hm F hr hb .nil a3s ht) fun σ H Q w=>?_;have w':=a1s (l:=1) (n:=0) hns rfl w;unfold a5B at w' ⊢;obtain ⟨π,α,δ,h,Q',R,S,q,k⟩:=w';refine ⟨π,α,δ,h,Q',R,S,q,fun d h' α' H' v a b c d'=>?_⟩;obtain ⟨p,dx,us,e1,e2,e3,π2,α2,δ2,h2,Q2,R2,S2,q2,k2⟩:=k d h' α' H' v a b c d';exact ⟨p,dx,us,e1,e2,e3,k2 [] h2 α2 H' [] q2 (Ext.refl ..) R2 .nil rfl⟩
end
structure W9(P:Program)(w:World)(K:PySem.W.Frag)(mg:Str->Option Value)(base:Heap)(k:Nat)(cn:Str)(ps:List Str)(sp:Sp):Prop where
 ex:∃ (C f:Addr) (fd:FuncData),mg cn=some (.ref C)/\PySem.W.nsIn K mainGlobals cn=some (some (.ref C))/\Mk K C f/\l9 P w K mg base CX0 k f fd ps sp/\Binds K fd ps []
def a1i(cn:Str)(g:DSp)(f:DA):DE:=fun δ h Q=>f δ h fun ds h1=>g (.ref h1.length :: ds) (h1 ++ [.ins cn []]) fun v h2=>v = .non/\Q (.ref h1.length) h2
section
variable {X:Cx} {k l:Nat} {ps:List Str} {g:DSp} {cn:Str} {e:Expr} {es:List Expr} {f:DA} {n:Nat} {p pos:Pos}
theorem a1D{C:Addr}{σ:L2.St}{H:Hp}{Q:VK}(hns:PySem.W.nsIn X.K mainGlobals cn=some (some (.ref C)))(hl:l=n + 1)(w:LE X.K (a1i cn g f) σ H Q):a7x C (spD X.K l g) [] E0 (LA X.K n f) σ H Q:=by
 obtain ⟨π,α,δ,h,Q',R,S,q,k⟩:=w;refine ⟨π,α,δ,h,_,R,S,q,fun ds h1 α1 H1 vs f1 e1 R1 q1 l1=>fun x dx hx hdx hne=>?_⟩;rw [List.append_nil];have hx':upd H1 dx (.own x) x=none:=by rw [k6 (Ne.symm hne)];exact hx
 have e2:Ext α1 H1 (α1 ++ [x]) (upd (upd H1 dx (.own x)) x (.ins C dx [])):=(Ext.new hdx).trans (Ext.newT hx');have gx:(α1 ++ [x])[h1.length]?=some x:=by rw [<- R1.len];simp
 refine ⟨π,α1 ++ [x],h1 ++ [.ins cn []],.ref h1.length :: ds,_,(R1.new hdx).newT hx' (.ins hns j7 .nil),.cons (.ref gx) (q1.mono e2),by rw [List.length_cons,l1,hl],f1,fun d h' α' H' v a b c d'=>?_⟩;obtain ⟨rfl,a⟩:=a
 cases d'
 exact ⟨rfl,k _ h' α' H' _ a (e1.trans (e2.trans b)) c (.ref (b.get gx))⟩
theorem b4a(c:W9 X.prog X.w X.K X.mg X.base k cn ps (spD X.K l g))(hr:Room (k + 1) X.A)(hg:Gl X cn)(ha:SA X (e :: es) n f)(hl:l=n + 1:=by rfl)(hdb:(cn == ("__debug__":Str))=false:=by decide)
  (he:starEach (e :: es) X.env=(false,eval e X.env) :: starEach es X.env:=by rfl) (hpl:(backTo pos (starEach es X.env)).any (·.1)=false:=by rfl):SE X (.Call (.Name cn p) (e :: es) [] pos) (a1i cn g f):=by
 obtain ⟨C,fa,fd,hm,hns,M,F,hb⟩:=c.ex;exact PE.imp (b1L M F hr hg hm hb .nil a3s ha hdb he hpl) fun σ H Q w=>a1D hns hl w
theorem a2U(c:W9 X.prog X.w X.K X.mg X.base k cn ps (spD X.K 1 g))(hr:Room (k + 1) X.A)(hg:Gl X cn)(hdb:(cn == ("__debug__":Str))=false:=by decide):SE X (.Call (.Name cn p) [] [] pos) (a1i cn g d7):=by
 obtain ⟨C,fa,fd,hm,hns,M,F,hb⟩:=c.ex;refine PE.imp (a7Z M F hr hg hm hb .nil a3s hdb) fun σ H Q w=>?_;obtain ⟨π,α,δ,h,Q',R,S,q,k⟩:=a1D (l:=1) (n:=0) hns rfl w;exact k [] h α H [] q (Ext.refl ..) R .nil rfl
end
end DL
namespace DL
open PySem PySem.Spec L2
def a0k:List D->Option (List Int)
 |[]=>some []
 |.int i :: r=>match a0k r with | some ns=>some (i :: ns) | none=>none
 |_=>none
theorem U9{K:KP}{α:List Addr}{H:Hp}:∀ {ds:List D} {us:List V} {ns:List Int},RelDs K α H ds us->a0k ds=some ns->us=ns.map V.int
 |[],_,_,r,e=>by cases r;cases e;rfl
 |d :: ds,_,_,r,e=>by
  cases r with
  |cons h t =>
   cases h with
   |int i =>
    have e:(match a0k ds with | some ns=>some (i :: ns) | none=>none)=some _:=e
    cases q:a0k ds with
    |none=>rw [q] at e;cases e
    |some ms=>rw [q] at e;cases e;rw [U9 t q];rfl
   |_=>cases e
def b5q:P2:=fun x y h Q=>match x,y with
 |.tup xs,.tup ys=>(match a0k xs,a0k ys with | some ns,some ms=>Q (.bl (HT.lexLt ns ms)) h | _,_=>False)
 |_,_=>False
def c2v:P2:=fun x y h Q=>match x,y with
 |.str i,.str j=>i.length + j.length <= 16777216/\Q (.str (i ++ j)) h
 |_,_=>False
def c3n:PN:=fun ds h Q=>match ds with | [.int i]=>i.natAbs.log2 < 1920/\Q (.str (toString i)) h | _=>False
section
variable {X:Cx} {o e:Expr} {fo fe:DE} {cpos apos:Pos}
theorem b7K(hu:X.A.units < cLine):OpR X (compareOp .Lt) (r2 X.K b5q):=OpR.imp (b8w hu) fun x y H Q ⟨π,α,h,d,e,Q',R,r1,r2,f,k⟩=>by
 unfold b5q at f
 cases r1 with
 |tup t1 s1 =>
  cases r2 with
  |tup t2 s2 =>
   dsimp only at f
   split at f
   ·rename_i ns ms w1 w2;have e1:=U9 s1 w1;have e2:=U9 s2 w2;subst e1;subst e2;exact ⟨_,_,ns,ms,rfl,rfl,t1.sq,t2.sq,k _ h α H _ f (Ext.refl ..) R (.bl _)⟩
   ·exact f.elim
  |_=>exact f.elim
 |_=>exact f.elim
def c2f(fo:DE)(fs:DA):DE:=fun δ h Q=>fo δ h fun d h1=>match d with
 |.ref i=>(match h1[i]? with
  |some (.lst _)=>fs δ h1 fun ds h2=>(match ds,h2[i]? with
   |[.int n],some (.lst xs)=>(0 <= n/\n < 2 ^ 62)/\(match xs[n.toNat]? with | some y=>Q y (h2.set i (.lst (xs.eraseIdx n.toNat))) | none=>False)
   |_,_=>False)
  |_=>False)
 |_=>False
end
end DL
namespace DL
open PySem PySem.Spec L2
def b9k(x:Str)(n:Nat):Str:=if n=0 then Str.empty else if n=1\/x.length=0 then x else { cps:=List.foldl (fun x1 x2=>x1 ++ x2) #[] (List.replicate n x.cps) }
def c3j:P2:=fun x y h Q=>match x,y with
 |.str i,.int n=>(0 <= n/\n <= 1000/\i.length <= 1000/\(b9k i n.toNat).length <= 16777216)/\Q (.str (b9k i n.toNat)) h
 |_,_=>False
end DL
namespace L2
open PySem PySem.Spec PyProof.Rows
section
variable {X:Cx}
end
end L2
namespace DL
open PySem PySem.Spec L2
section
variable {X:Cx} {a b:Expr} {p p2 pos pos2:Pos} {n:Nat} {f:DA}
end
end DL
namespace L2
open PySem PySem.Spec PyProof.Rows
theorem a6F{X:Cx}(hc:X.calm=true):CallR X (.builtin "max") (fun xs H Q=>∃ (l:Addr) (ns:List Int),xs=[.ref l]/\SqL X.K H l (ns.map V.int)/\ns ≠ []/\∀ n ∈ ns,(∀ m ∈ ns,m <= n)->Q (.int n) H):=by
 intro pins s σ H xs us Q I r h;obtain ⟨l,ns,rfl,hq,hn,q⟩:=h;obtain ⟨u,rfl,ru⟩:=T7 r;cases ru;obtain ⟨its,rv,p,hz⟩:=I.list hq;have hi:IntsAre its ns:=K9 rv;obtain ⟨ys,e⟩:=hi.allInts.items;have en:ys.toList.map (·.1)=ns:=by rw [<- nums_intItems,<- e];simpa using hi.numsOf
 have hl:ns.length=ys.size:=by rw [<- en];simp
 have hp:0 < ns.length:=List.length_pos_iff.mpr hn
 have at':∀ i,i < ys.size->ns[i]?=some (numAt ys i):=fun i hi=>by
  rw [<- en,List.getElem?_map];unfold numAt;rw [Array.getElem?_eq_getElem hi]
  simp [hi]
 refine max_intList (xs:=ys) (I.ok.hd hc) (by rw [<- e];exact p.isList) (by omega) fun v h' tk hv hk=>?_;obtain ⟨b1,b2⟩:=argBest_gt (numAt ys) (ys.size - 1);obtain ⟨t,rfl⟩:=intItems_at hv;refine ⟨.int _,H,I.kept hk,⟨t,rfl⟩,q _ (List.mem_of_getElem? (at' _ (by omega))) fun m hm=>?_⟩;obtain ⟨i,hi',rfl⟩:=List.mem_iff_getElem.mp hm;have z:=at' i (by omega);rw [List.getElem?_eq_getElem hi'] at z
 have:=b2 i (by omega)
 rw [Option.some.inj z];omega
end L2
namespace DL
open PySem PySem.Spec L2
def a7g:PN:=fun ds h Q=>∃ (d:D) (ns:List Int),ds=[d]/\A4 h d=some (ns.map D.int)/\ns ≠ []/\∀ n ∈ ns,(∀ m ∈ ns,m <= n)->Q (.int n) h
theorem a5e{X:Cx}(hc:X.calm=true):CallR X (.builtin "max") (rN X.K a7g):=CallR.imp (a6F hc) fun xs H Q zz0=>by
 obtain ⟨π,α,h,ds,Q',R,rs,f,k⟩:=zz0;obtain ⟨d,ns,rfl,w,hn,f⟩:=f;obtain ⟨v,rfl,rd⟩:=rs.inv1;obtain ⟨p,us,rfl,b,c⟩:=P3 R rd w
 cases c.ints_inv
 exact ⟨p,ns,rfl,b,hn,fun n h1 h2=>k _ h α H _ (f n h1 h2) (Ext.refl ..) R (.int _)⟩
end DL
namespace CM
open PySem L2 DL
inductive Mo where
 |go (w:Mv) (k e:Nat) | out (e:Nat)
structure a0V where
 f:Nat
 p:Nat
 d:Nat
 cost:Nat
 op:List (Nat×Nat)
def c0D(C:d9):Nat->List (Nat×Nat)->Prop
 |_,[]=>True
 |f,x :: r=>∃ G E i b o,C[x.1]?=some G/\G.edges[x.2]?=some E/\E.k = .call f i b o/\c0D C x.1 r
def sOk(C:d9)(s:a0V):Prop:=∃ F,C[s.f]?=some F/\s.p < F.places/\s.d < F.facts/\c0D C s.f s.op
inductive Nx(C:d9):a0V->Mo->a0V->Prop
 |go {s:a0V} {w:Mv} {k e:Nat} {E:Edge}:w ≠ .inn->n4 C s.f s.p s.d w (k:Int) (e:Int)=some E->Nx C s (.go w k e) ⟨s.f,E.q,e,s.cost + E.cost,s.op⟩
 |inn {s:a0V} {k e:Nat} {E:Edge} {g:Nat} {i b o:List Nat}:n4 C s.f s.p s.d .inn (k:Int) (e:Int)=some E->E.k = .call g i b o->Nx C s (.go .inn k e) ⟨g,0,e,s.cost + E.cost,(s.f,k) :: s.op⟩
 |out {s:a0V} {x:Nat×Nat} {r:List (Nat×Nat)} {e:Nat} {F G:Fn} {E:Edge} {g:Nat} {i b o:List Nat}:s.op=x :: r->C[s.f]?=some F->s.p + 1=F.places->C[x.1]?=some G->G.edges[x.2]?=some E->E.k = .call g i b o->br b s.d (e:Int)=true->Nx C s (.out e) ⟨x.1,E.q,e,s.cost,r⟩
structure Way(C:d9)(fact:Nat)(ms:List Mo)(ss:List a0V):Prop where
 len:ss.length=ms.length + 1
 one:ss[0]?=some ⟨0,0,fact,0,[]⟩
 ok:∀ s ∈ ss,sOk C s
 nx:∀ (i:Nat) (m:Mo) (s s':a0V),ms[i]?=some m->ss[i]?=some s->ss[i + 1]?=some s'->Nx C s m s'
theorem Way.take{C:d9}{fact:Nat}{ms:List Mo}{ss:List a0V}(W:Way C fact ms ss){n:Nat}(hn:n <= ms.length):Way C fact (ms.take n) (ss.take (n + 1)):=by
 refine ⟨by rw [List.length_take,List.length_take,W.len];omega,?_,fun x hx=>W.ok x (List.mem_of_mem_take hx),fun i m a b h1 h2 h3=>?_⟩
 ·rw [List.getElem?_take,if_pos (by omega)];exact W.one
 ·rw [List.getElem?_take] at h1 h2 h3
  split at h1
  ·split at h2
   ·split at h3
    ·exact W.nx i m a b h1 h2 h3
    ·cases h3
   ·cases h2
  ·cases h1
theorem Way.get{C:d9}{fact:Nat}{ms:List Mo}{ss:List a0V}(W:Way C fact ms ss){i:Nat}(h:i <= ms.length):∃ s,ss[i]?=some s/\sOk C s:=by
 have hl:i < ss.length:=by rw [W.len];omega
 exact ⟨_,List.getElem?_eq_getElem hl,W.ok _ (List.getElem_mem hl)⟩
end CM
namespace CM
open PySem L2 DL
def put(ms:List Nat)(p:Nat×Nat):List Nat:=ms.set p.1 (ms.getD p.1 0 ||| 2 ^ p.2)
end CM
namespace CM
open PySem L2 DL
structure Ord(lt:Nat->Nat->Bool):Prop where
 as:∀ a b,lt a b=true->lt b a=false
 tr:∀ a b c,lt a b=false->lt b c=false->lt a c=false
 eq:∀ a b,lt a b=false->lt b a=false->a=b
def at0(xs:List Nat)(i:Nat):Nat:=xs.getD i 0
theorem E3(xs:List Nat)(i j v:Nat)(hi:i < xs.length):at0 (xs.set i v) j=if i=j then v else at0 xs j:=by
 unfold at0;rw [List.getD_eq_getElem?_getD,List.getElem?_set,List.getD_eq_getElem?_getD]
 by_cases h:i=j
 ·subst h;simp [hi]
 ·simp [h]
def HP(lt:Nat->Nat->Bool)(xs:List Nat):Prop:=∀ i,0 < i->i < xs.length->lt (at0 xs i) (at0 xs ((i - 1) / 2))=false
def UpH(lt:Nat->Nat->Bool)(zs:List Nat)(k:Nat):Prop:=k < zs.length/\(∀ i,0 < i->i < zs.length->i ≠ k->lt (at0 zs i) (at0 zs ((i - 1) / 2))=false)/\∀ i,i < zs.length->0 < i->(i - 1) / 2=k->0 < k->lt (at0 zs i) (at0 zs ((k - 1) / 2))=false
def DnH(lt:Nat->Nat->Bool)(zs:List Nat)(k:Nat):Prop:=k < zs.length/\(∀ i,0 < i->i < zs.length->(i - 1) / 2 ≠ k->lt (at0 zs i) (at0 zs ((i - 1) / 2))=false)/\∀ i,i < zs.length->0 < i->(i - 1) / 2=k->0 < k->lt (at0 zs i) (at0 zs ((k - 1) / 2))=false
def Y9(zs:List Nat)(k j:Nat):List Nat:=(zs.set k (at0 zs j)).set j (at0 zs k)
theorem K1(zs:List Nat)(k j:Nat):(Y9 zs k j).length=zs.length:=by unfold Y9;simp
theorem a5i{zs:List Nat}{k j:Nat}(hk:k < zs.length)(hj:j < zs.length)(i:Nat):at0 (Y9 zs k j) i=if j=i then at0 zs k else if k=i then at0 zs j else at0 zs i:=by
 unfold Y9;rw [E3 _ _ _ _ (by simpa using hj),E3 _ _ _ _ hk]
theorem C1{zs:List Nat}{k:Nat}(hk:k < zs.length):zs[k]=at0 zs k:=by unfold at0;rw [List.getD_eq_getElem?_getD,List.getElem?_eq_getElem hk];rfl
theorem a1p{zs:List Nat}{k j:Nat}(hk:k < zs.length)(hj:j < zs.length)(hkj:k ≠ j):(Y9 zs k j).Perm zs:=by
 rw [List.perm_iff_count];intro a;unfold Y9;have h1:j < (zs.set k (at0 zs j)).length:=by simpa using hj
 rw [List.count_set h1,List.count_set hk,List.getElem_set_ne hkj,C1 hk,C1 hj];have p1:zs[k]=a->0 < zs.count a:=fun e=>List.count_pos_iff.mpr (e ▸ List.getElem_mem hk);rw [C1 hk] at p1;generalize at0 zs k=x at *;generalize at0 zs j=y at *;generalize zs.count a=n at *
 by_cases e1:x=a <;> by_cases e2:y=a
 ·have:=p1 e1;simp [e1,e2];omega
 ·have:=p1 e1;simp [e1,e2];omega
 ·simp [e1,e2]
 ·simp [e1,e2]
section
variable {lt:Nat->Nat->Bool}
theorem UpH.step(O:Ord lt){zs:List Nat}{k:Nat}(u:UpH lt zs k)(h0:0 < k)(hl:lt (at0 zs k) (at0 zs ((k - 1) / 2))=true):UpH lt (Y9 zs k ((k - 1) / 2)) ((k - 1) / 2):=by
 obtain ⟨hk,u1,u2⟩:=u;have hp:(k - 1) / 2 < k:=by omega
 have at_:=a5i hk (Nat.lt_trans hp hk);refine ⟨by rw [K1];omega,fun i hi hl' hne=>?_,fun i hi hi0 hip hp0=>?_⟩
 ·rw [K1] at hl';rw [at_,at_,if_neg (Ne.symm hne)]
  by_cases e1:k=i
  ·subst e1;rw [if_pos rfl,if_pos rfl];exact O.as _ _ hl
  ·rw [if_neg e1]
   by_cases e2:(k - 1) / 2=(i - 1) / 2
   ·rw [if_pos e2]
    have:=u1 i hi hl' (Ne.symm e1)
    rw [<- e2] at this;exact O.tr _ _ _ this (O.as _ _ hl)
   ·rw [if_neg e2]
    by_cases e3:k=(i - 1) / 2
    ·rw [if_pos e3];exact u2 i hl' hi e3.symm h0
    ·rw [if_neg e3];exact u1 i hi hl' (Ne.symm e1)
 ·rw [K1] at hi;have hpp:((k - 1) / 2 - 1) / 2 < (k - 1) / 2:=by omega
  rw [at_,at_,if_neg (show ¬ (k - 1) / 2=i by omega),if_neg (show ¬ (k - 1) / 2=((k - 1) / 2 - 1) / 2 by omega),if_neg (show ¬ k=((k - 1) / 2 - 1) / 2 by omega)];have hpar:=u1 ((k - 1) / 2) hp0 (by omega) (by omega)
  by_cases e1:k=i
  ·rw [if_pos e1];exact hpar
  ·rw [if_neg e1]
   have:=u1 i hi0 hi (Ne.symm e1)
   rw [hip] at this;exact O.tr _ _ _ this hpar
theorem UpH.done{zs:List Nat}{k:Nat}(u:UpH lt zs k)(h:k=0\/lt (at0 zs k) (at0 zs ((k - 1) / 2))=false):HP lt zs:=by
 intro i hi hl
 by_cases e:i=k
 ·subst e
  rcases h with h | h
  ·omega
  ·exact h
 ·exact u.2.1 i hi hl e
def lsb(lt:Nat->Nat->Bool)(xs:List Nat)(k:Nat):Nat:=if 2 * k + 2 < xs.length/\lt (at0 xs (2 * k + 2)) (at0 xs (2 * k + 1))=true then 2 * k + 2 else 2 * k + 1
theorem a8U(xs:List Nat)(k:Nat):lsb lt xs k=2 * k + 1\/lsb lt xs k=2 * k + 2:=by unfold lsb;split <;> simp
theorem b0F(O:Ord lt){xs:List Nat}{k i:Nat}(h0:0 < i)(hp:(i - 1) / 2=k)(hi:i < xs.length):lt (at0 xs i) (at0 xs (lsb lt xs k))=false:=by
 have irr:∀ a,lt a a=false:=fun a=>by cases h:lt a a with | false=>rfl | true=>exact h.symm.trans (O.as a a h)
 have:i=2 * k + 1\/i=2 * k + 2:=by omega
 unfold lsb
 rcases this with rfl | rfl
 ·split
  ·rename_i h;exact O.as _ _ h.2
  ·exact irr _
 ·split
  ·exact irr _
  ·rename_i h
   cases q:lt (at0 xs (2 * k + 2)) (at0 xs (2 * k + 1)) with
   |false=>rfl
   |true=>exact absurd ⟨hi,q⟩ h
theorem b8L{xs:List Nat}{k i:Nat}(h0:0 < i)(hp:(i - 1) / 2=k)(hi:i < xs.length):lsb lt xs k < xs.length:=by
 unfold lsb;split
 ·rename_i h;exact h.1
 ·omega
theorem DnH.step(O:Ord lt){zs:List Nat}{k:Nat}(u:DnH lt zs k)(hj:lsb lt zs k < zs.length)(hl:lt (at0 zs (lsb lt zs k)) (at0 zs k)=true):DnH lt (Y9 zs k (lsb lt zs k)) (lsb lt zs k):=by
 obtain ⟨hk,u1,u2⟩:=u;have hor:=a8U (lt:=lt) zs k;have le:∀ i,0 < i->(i - 1) / 2=k->i < zs.length->lt (at0 zs i) (at0 zs (lsb lt zs k))=false:=fun i a b c=>b0F O a b c;generalize lsb lt zs k=j at *;have at_:=a5i hk hj;refine ⟨by rw [K1];omega,fun i hi hl' hne=>?_,fun i hi hi0 hip hp0=>?_⟩
 ·rw [K1] at hl';rw [at_,at_,if_neg (Ne.symm hne)]
  by_cases e1:j=i
  ·subst e1;rw [if_pos rfl,if_pos (show k=(j - 1) / 2 by omega)];exact O.as _ _ hl
  ·rw [if_neg e1]
   by_cases e2:k=(i - 1) / 2
   ·rw [if_pos e2,if_neg (show ¬ k=i by omega)];exact le i hi e2.symm hl'
   ·rw [if_neg e2]
    by_cases e3:k=i
    ·subst e3;rw [if_pos rfl];exact u2 j hj (by omega) (by omega) hi
    ·rw [if_neg e3];exact u1 i hi hl' (Ne.symm e2)
 ·rw [K1] at hi;rw [at_,at_,if_neg (show ¬ j=i by omega),if_neg (show ¬ k=i by omega),if_neg (show ¬ j=(j - 1) / 2 by omega),if_pos (show k=(j - 1) / 2 by omega)]
  have:=u1 i hi0 hi (by omega)
  rw [hip] at this;exact this
theorem DnH.done(O:Ord lt){zs:List Nat}{k:Nat}(u:DnH lt zs k)(h:zs.length <= lsb lt zs k\/lt (at0 zs (lsb lt zs k)) (at0 zs k)=false):HP lt zs:=by
 intro i hi hl
 by_cases e:(i - 1) / 2=k
 ·have h1:=b8L (lt:=lt) hi e hl
  rcases h with h | h
  ·omega
  ·rw [e];exact O.tr _ _ _ (b0F O hi e hl) h
 ·exact u.2.1 i hi hl e
theorem HP.root(O:Ord lt){xs:List Nat}(h:HP lt xs):∀ i,i < xs.length->lt (at0 xs i) (at0 xs 0)=false:=by
 have irr:∀ a,lt a a=false:=fun a=>by cases h:lt a a with | false=>rfl | true=>exact h.symm.trans (O.as a a h)
 intro i
 induction i using Nat.strongRecOn with
 |_ i ih =>
  intro hi
  by_cases z:i=0
  ·subst z;exact irr _
  ·exact O.tr _ _ _ (h i (by omega) hi) (ih ((i - 1) / 2) (by omega) (by omega))
theorem HP.up{xs:List Nat}(h:HP lt xs)(v:Nat):UpH lt (xs ++ [v]) xs.length:=by
 have at1:∀ i,i < xs.length->at0 (xs ++ [v]) i=at0 xs i:=fun i hi=>by
  unfold at0;rw [List.getD_eq_getElem?_getD,List.getD_eq_getElem?_getD,List.getElem?_append_left hi]
 refine ⟨by simp,fun i hi hl hne=>?_,fun i hi hi0 hip hp0=>?_⟩
 ·have:i < xs.length:=by simp at hl;omega
  rw [at1 i this,at1 _ (by omega)];exact h i hi this
 ·simp at hi;omega
theorem HP.dn{xs:List Nat}(h:HP lt xs)(v:Nat)(h1:1 < xs.length):DnH lt (xs.dropLast.set 0 v) 0:=by
 have hl:(xs.dropLast.set 0 v).length=xs.length - 1:=by simp
 have at1:∀ i,0 < i->i < xs.length - 1->at0 (xs.dropLast.set 0 v) i=at0 xs i:=fun i h0 hi=>by
  rw [E3 _ _ _ _ (by rw [List.length_dropLast];omega),if_neg (by omega)];unfold at0;rw [List.getD_eq_getElem?_getD,List.getD_eq_getElem?_getD,List.getElem?_dropLast,if_pos hi]
 refine ⟨by rw [hl];omega,fun i hi hi' hne=>?_,fun i hi hi0 hip hp0=>by omega⟩;rw [hl] at hi';rw [at1 i hi hi',at1 _ (by omega) (by omega)];exact h i hi (by omega)
theorem a5U{x v:Nat}{r zs:List Nat}(p:zs.Perm ((x :: r ++ [v]).dropLast.set 0 v)):(x :: zs).Perm (x :: r ++ [v]):=by
 rw [List.dropLast_concat] at p;exact (List.Perm.cons x p).trans ((List.perm_append_singleton v r).symm.cons x)
end
end CM
namespace DL
open PySem L2
theorem U5{t:DT}{b:DS}{E:E8}(P:Nat->Sl->Hh->Prop){m:Nat}{δ:Sl}{h:Hh}(h0:P m δ h)(step:∀ m δ h (N:Sl->Hh->Prop),P m δ h->(∀ m' δ' h',m' < m->P m' δ' h'->N δ' h')->t δ h fun c h1=>if c=true then b { E with nx:=N,ct:=N,bk:=E.nx } δ h1 else E.nx δ h1):V3 t b E δ h:=by
 refine ⟨m + 1,?_⟩
 have key:∀ n m δ h,m < n->P m δ h->whN t b E n δ h:=by
  intro n
  induction n with
  |zero=>intro m δ h hm;omega
  |succ n ih =>
   intro m δ h hm hp;exact step m δ h _ hp fun m' δ' h' hm' hp'=>ih m' δ' h' (by omega) hp'
 exact key _ m δ h (Nat.lt_succ_self _) h0
theorem a0f{h:Hh}{j:Nat}{o:O}(e:h[j]?=some o):h.set j o=h:=by
 obtain ⟨hl,e⟩:=List.getElem?_eq_some_iff.mp e;rw [<- e,List.set_getElem_self]
end DL
namespace CM
open PySem L2 DL
def okT(t:D):Prop:=nrD t=true/\∃ p,∀ h,Pd h t p 3
abbrev Tb:=List (Int×D)
def cst(T:Tb)(n:Nat):Int:=(T.getD n (0,.non)).1
def thg(T:Tb)(n:Nat):D:=(T.getD n (0,.non)).2
def hD(T:Tb)(n:Nat):D:=.tup [.int (cst T n),nD n,thg T n]
def sD(T:Tb)(n:Nat):D:=.tup [.int (cst T n),thg T n]
def ltT(T:Tb)(a b:Nat):Bool:=HT.lexLt [cst T a,(a:Int)] [cst T b,(b:Int)]
theorem a4J{T:Tb}{a b:Nat}:ltT T a b=true ↔ cst T a < cst T b\/(cst T a=cst T b/\a < b):=by
 unfold ltT;rw [HT.lexLt_cons,HT.lexLt_cons,HT.lexLt_nil_nil]
 by_cases e:cst T a=cst T b
 ·rw [if_pos e]
  by_cases e2:(a:Int)=b
  ·rw [if_pos e2];simp;omega
  ·rw [if_neg e2,decide_eq_true_iff];omega
 ·rw [if_neg e,decide_eq_true_iff];omega
theorem Z6{T:Tb}{a b:Nat}:ltT T a b=false ↔ ¬ (cst T a < cst T b\/(cst T a=cst T b/\a < b)):=by rw [<- a4J,Bool.not_eq_true]
theorem b4n(T:Tb):Ord (ltT T) :=
 ⟨fun a b h=>by rw [a4J] at h;rw [Z6];omega,fun a b c h1 h2=>by rw [Z6] at *;omega,fun a b h1 h2=>by rw [Z6] at *;omega⟩
theorem a2J{T:Tb}{x:Int×D}{n:Nat}(h:n < T.length):(T ++ [x]).getD n (0,.non)=T.getD n (0,.non):=by
 rw [List.getD_eq_getElem?_getD,List.getD_eq_getElem?_getD,List.getElem?_append_left h]
theorem a7b(T:Tb)(x:Int×D):(T ++ [x]).getD T.length (0,.non)=x:=by
 rw [List.getD_eq_getElem?_getD,List.getElem?_append_right (Nat.le_refl _),Nat.sub_self];rfl
theorem a2m{T:Tb}{x:Int×D}{n:Nat}(h:n < T.length):cst (T ++ [x]) n=cst T n:=by unfold cst;rw [a2J h]
theorem b2d{T:Tb}{x:Int×D}{n:Nat}(h:n < T.length):thg (T ++ [x]) n=thg T n:=by unfold thg;rw [a2J h]
theorem b5N(T:Tb)(c:Int)(t:D):hD (T ++ [(c,t)]) T.length = .tup [.int c,nD T.length,t]:=by unfold hD cst thg;rw [a7b]
theorem b5Y{T:Tb}{x:Int×D}{xs:List Nat}(h:∀ n ∈ xs,n < T.length):xs.map (hD (T ++ [x]))=xs.map (hD T):=List.map_congr_left fun n hn=>by unfold hD;rw [a2m (h n hn),b2d (h n hn)]
theorem a2x{xs:List Nat}{i:Nat}(h:i < xs.length):at0 xs i ∈ xs:=by rw [<- C1 h];exact List.getElem_mem h
theorem HP.app{T:Tb}{x:Int×D}{xs:List Nat}(h:HP (ltT T) xs)(hl:∀ n ∈ xs,n < T.length):HP (ltT (T ++ [x])) xs:=fun i h0 hi=>by
 have:=h i h0 hi
 unfold ltT at this ⊢;rw [a2m (hl _ (a2x hi)),a2m (hl _ (a2x (by omega)))];exact this
structure QInv(T:Tb)(hs ss:List Nat):Prop where
 perm:hs.Perm ss
 hp:HP (ltT T) hs
 inc:ss.Pairwise (· < ·)
 lt:∀ n ∈ ss,n < T.length
 ok:∀ x ∈ T,okT x.2
 len:ss.length <= T.length
theorem QInv.put{T:Tb}{hs ss hs':List Nat}{c:Int}{t:D}(q:QInv T hs ss)(ht:okT t)(p:hs'.Perm (hs ++ [T.length]))(h:HP (ltT (T ++ [(c,t)])) hs'):QInv (T ++ [(c,t)]) hs' (ss ++ [T.length]):=by
 refine ⟨p.trans (q.perm.append_right _),h,?_,fun n hn=>?_,fun x hx=>?_,by simp;exact q.len⟩
 ·rw [List.pairwise_append];exact ⟨q.inc,by simp,fun a ha b hb=>by rw [List.mem_singleton.mp hb];exact q.lt a ha⟩
 ·rw [List.length_append,List.length_singleton]
  rcases List.mem_append.mp hn with z | z
  ·have:=q.lt n z;omega
  ·rw [List.mem_singleton.mp z];omega
 ·rcases List.mem_append.mp hx with z | z
  ·exact q.ok x z
  ·rw [List.mem_singleton.mp z];exact ht
theorem QInv.take{T:Tb}{hs ss hs':List Nat}(q:QInv T hs ss){a:Nat}(ha:a < ss.length)(e:ss[a]=at0 hs 0)(p:(at0 hs 0 :: hs').Perm hs)(h:HP (ltT T) hs'):QInv T hs' (ss.eraseIdx a):=by
 have p2:(ss[a] :: ss.eraseIdx a).Perm ss:=by
  rw [List.eraseIdx_eq_take_drop_succ];refine List.perm_middle.symm.trans (.of_eq ?_);rw [List.getElem_cons_drop,List.take_append_drop]
 rw [<- e] at p;have sub:=List.eraseIdx_sublist ss a;exact ⟨(p.trans (q.perm.trans p2.symm)).cons_inv,h,q.inc.sublist sub,fun n hn=>q.lt n (sub.subset hn),q.ok,Nat.le_trans sub.length_le q.len⟩
def qO(j n:Nat):O:=.ins "Queue" [("heap",.ref j),("puts",nD n)]
theorem N9{h:Hh}{i j n:Nat}{Q:DK}(e:h[i]?=some (qO j n)):p8 "Queue" "heap" (.ref i) h Q=Q (.ref j) h:=by
 unfold p8;rw [u6 e];rfl
theorem b6N{h:Hh}{i j n:Nat}{Q:DK}(e:h[i]?=some (qO j n)):p8 "Queue" "puts" (.ref i) h Q=Q (nD n) h:=by
 unfold p8;rw [u6 e];rfl
theorem b5j{h:Hh}{i j n:Nat}{m:Str}(e:h[i]?=some (qO j n))(l:([(Str.ofString "heap",D.ref j),(Str.ofString "puts",nD n)]:List (Str×D)).lookup m=none):a1V "Queue" m h (.ref i):=by
 unfold a1V;rw [u6 e];exact l
end CM
namespace L2
open PySem PySem.Spec PyProof.Rows
section
variable {X:Cx} {pins:List (Addr×Obj)} {σ:St} {H:Hp} {s:Shared}
theorem Inv.thaw{a:Addr}{o:Obj}{u:HO}(I:Inv X pins σ H s)(e:H a=some (.frz o u))(h0:∀ o u,X.H₀ a ≠ some (.frz o u)):Inv X pins σ (upd H a u) s:=by
 have ne:∀ b,H b ≠ some (.frz o u)->upd H a u b=H b:=fun b h=>k6 fun z=>h (by rw [z];exact e);have nn:∀ b,H b=none->upd H a u b=none:=fun b h=>by rw [ne b (by rw [h];exact fun z=>nomatch z)];exact h
 refine ⟨I.ok,I.os,I.bare,⟨I.base.keep,I.base.slot,fun b ob q n hx=>nn b (I.base.free b ob q n hx),I.base.there,fun b xs q=>?_,fun b ob v q=>?_,fun b ps q=>?_⟩,I.loc,I.cell,nn _ I.free,fun x c q=>nn _ (I.freeC x c q),fun p hp=>?_,fun b ob q=>?_,I.len⟩
 ·have:=I.base.tups b xs q
  rw [ne b (by rw [this];exact fun z=>nomatch z)];exact this
 ·have:=I.base.frzs b ob v q
  by_cases c:b=a
  ·rw [c] at q;exact absurd q (h0 _ _)
  ·rw [k6 c];exact this
 ·obtain ⟨m,hm⟩:=I.base.tbls b ps q;exact ⟨m,by rw [ne b (by rw [hm];exact fun z=>nomatch z)];exact hm⟩
 ·obtain ⟨h1,h2,h3⟩:=I.pin p hp;exact ⟨h1,nn _ h2,h3⟩
 ·have go:∀ b ob,H b=some ob->ObjOk X.prog X.w (upd H a u) s.heap b ob:=fun b ob q=>(I.hok b ob q).stay (fun _ _ _ z=>z) (fun c z=>by rw [ne c (by rw [z];exact fun y=>nomatch y)];exact z) fun c xs z=>by rw [ne c (by rw [z];exact fun y=>nomatch y)];exact z
  by_cases c:b=a
  ·subst c;rw [j7] at q;cases q;exact (show ObjOk X.prog X.w (upd H b u) s.heap b (.frz o u) from go b _ e).2
  ·rw [k6 c] at q;exact go b ob q
end
end L2
namespace L2
open PySem PySem.Spec PyProof.Rows
def Itk(a:Addr)(o:Obj)(ks:List (List Key)):It :=
 ⟨fun i H=>(∃ us:List (List Key×V),H a=some (.frz o (.dT us))/\us.map (·.1)=ks)/\i < ks.length,fun i H x H'=>H'=H/\∃ b k,ks[i]?=some k/\x = .ref b/\H b=some (.tup (k.map kV)),fun i H=>(∃ us:List (List Key×V),H a=some (.frz o (.dT us))/\us.map (·.1)=ks)/\ks.length <= i⟩
def b8G(tl:TE):TI:=fun σ H R=>tl σ H fun x H1=>∃ a kvs,x = .ref a/\H1 a=some (.dT kvs)/\∀ o,R (Itk a o (kvs.map (·.1))) (upd H1 a (.frz o (.dT kvs)))
theorem a4l{P:Program}{w:World}{K:PySem.W.Frag}{tg:Expr}(a it:Addr){o:Obj}{es:Array DictEntry}{ep:Nat}(ks:List (List Key))(hd:o.data = .dict es ep) :
  a3D P w K tg (Itk a o ks) [it] it (fun i h=>h.IsKeyIter it a i es.size ep) where
 mem:=(C7 (P:=P) (w:=w) (K:=K) (tg:=tg) a it [] hd).mem
 obj:=(C7 (P:=P) (w:=w) (K:=K) (tg:=tg) a it [] hd).obj
 keep:=(C7 (P:=P) (w:=w) (K:=K) (tg:=tg) a it [] hd).keep
 item:=by
  intro X hP hw hK hc i pins s σ H E I hf st hg;obtain ⟨⟨us,hH,rfl⟩,hi⟩:=hg;refine thn ((C7 (tg:=tg) a it us hd).item X hP hw hK hc i pins s σ H E I hf st ⟨hH,by simpa using hi⟩) fun r s1 z=>?_;obtain ⟨u,hr,z⟩:=z;refine ⟨u,hr,thn z fun _ s2 z=>?_⟩;obtain ⟨x,H',I',rx,⟨e,b,p,h1,h2,h3⟩,st',fr⟩:=z;exact ⟨x,H',I',rx,⟨e,b,p.1,by rw [List.getElem?_map,h1];rfl,h2,h3⟩,st',fr⟩
 done:=by
  intro X hP hw hK hc i pins s σ H E I hf st hg;obtain ⟨⟨us,hH,rfl⟩,hi⟩:=hg;exact (C7 (tg:=tg) a it us hd).done X hP hw hK hc i pins s σ H E I hf st ⟨hH,by simpa using hi⟩
 self:=(C7 (P:=P) (w:=w) (K:=K) (tg:=tg) a it [] hd).self
section
variable {X:Cx} {tg:Expr}
theorem a7z{l:Expr}{tl:TE}(hl:PE X l tl):PI X tg l (b8G tl):=by
 intro pins s σ H R I h;refine thn (hl pins s σ H _ I h) fun v s1 zz0=>?_;obtain ⟨x,H1,I1,r1,q1⟩:=zz0;obtain ⟨a,kvs,e,hH,q⟩:=q1;subst e;cases r1;obtain ⟨z,hd,xs,rel,o,es,ep,h1,h2,h3,h4,h5⟩:=(show ObjOk X.prog X.w H1 s1.heap a (.dT kvs) from I1.hok a _ hH)
 refine a6B hd h1 h2 h3 ?_;have hne:∀ b ys,H1 b=some (.tup ys)->(upd H1 a (.frz o (.dT kvs))) b=some (.tup ys):=fun b ys eb=>by rw [k6 (a7r eb hH (fun z=>nomatch z))];exact eb
 have I2:=I1.write (x:=a) (e:=a) (o:=.frz o (.dT kvs)) (t':=s1.toks) (h':=s1.heap.push { cls:=.type "dict_keyiterator",data:=.fields #[.ref a,.int 0 0,.int es.size 0,.int ep 0] }) (by rw [hH];exact True.intro) (.inl rfl) (fun b u _ q=>Heap.get?_push_of_some _ q) ⟨_,Heap.get?_push_of_some _ h1⟩
  ⟨Heap.get?_push_of_some _ h1,z,hd,xs,KT.keeps rel hne,o,es,ep,Heap.get?_push_of_some _ h1,h2,h3,h4,h5⟩
 refine ⟨s1.heap.objs.size,[s1.heap.objs.size],_,_,_,rfl,I2,a4l a _ (kvs.map (·.1)) h3,⟨_,Heap.get?_push_size _ rfl,rfl,rfl⟩,fun b hb=>?_,q o⟩;have e:b=s1.heap.objs.size:=by simpa using hb
 subst e;have hne2:s1.heap.objs.size ≠ a:=Nat.ne_of_gt (Heap.lt_size h1);exact I1.fpOk (Nat.le_refl _) (by rw [k6 hne2];exact I1.hok.fresh (Nat.le_refl _))
end
end L2
namespace L2
open PySem PySem.Spec PyProof.Rows
section
variable {X:Cx}
theorem b7s(hu:X.A.units + 1 < cLine):OpR X (compareOp .In) (fun x y H Q=>∃ a o,y = .ref a/\Y7 H a x o/\Q (.bl o.isSome) H):=by
 intro pins s σ H x y v u Q I rx ry h;obtain ⟨a,o,rfl,g,q⟩:=h;cases ry;exact c1I hu I g rx fun s' I'=>⟨.bl _,H,I',rfl,q⟩
theorem b4e(hu:X.A.units + 1 < cLine):OpR X (compareOp .NotIn) (fun x y H Q=>∃ a o,y = .ref a/\Y7 H a x o/\Q (.bl (!o.isSome)) H):=by
 intro pins s σ H x y v u Q I rx ry h;obtain ⟨a,o,rfl,g,q⟩:=h;cases ry;exact b3g hu I g rx fun s' I'=>⟨.bl _,H,I',rfl,q⟩
end
end L2
namespace DL
open PySem PySem.Spec L2
def kD:Key->D
 |.inl i=>.int i
 |.inr x=>.str x
def K0(k:List Key):D:=.tup (k.map kD)
def D5(kvs:List (List Key×D))(k:List Key):Option D:=(kvs.find? fun kv=>decide (kv.1=k)).map (·.2)
def M9(kvs:List (List Key×D))(k:List Key)(v:D):List (List Key×D) :=
 if (kvs.any fun kv=>decide (kv.1=k))=true then kvs.map (fun kv=>if kv.1=k then (kv.1,v) else kv) else kvs ++ [(k,v)]
section
variable {K:KP} {α:List Addr} {H:Hp} {h:Hh}
theorem b6F{k:Key}{v:V}(r:RelD K α H (kD k) v):v=kV k:=by
 cases k with
 |inl i=>cases r;rfl
 |inr x=>cases r;rfl
theorem a4H:∀ {ks:List Key} {us:List V},RelDs K α H (ks.map kD) us->us=ks.map kV
 |[],_,.nil=>rfl
 |k :: ks,_,.cons r t=>by rw [b6F r,a4H t];rfl
theorem c0n(k:Key):RelD K α H (kD k) (kV k):=by
 cases k with
 |inl i=>exact .int i
 |inr x=>exact .str x
theorem a7Y:∀ ks:List Key,RelDs K α H (ks.map kD) (ks.map kV)
 |[]=>.nil
 |k :: ks=>.cons (c0n k) (a7Y ks)
theorem a3L{ks:List Key}{v:V}(r:RelD K α H (K0 ks) v):∃ b,v = .ref b/\H b=some (.tup (ks.map kV)):=by
 unfold K0 at r
 cases r with
 |tup t r=>exact ⟨_,rfl,by rw [t.2.2,a4H r]⟩
theorem b0M(R:HRel K α H h){ks:List Key}{b:Addr}(e:H b=some (.tup (ks.map kV))):RelD K α H (K0 ks) (.ref b):=by
 refine .tup ⟨fun z=>?_,fun z=>(R.dis b z).2.2 _ e,e⟩ (a7Y ks);obtain ⟨i,hi,rfl⟩:=List.mem_iff_getElem.mp z;have hl:i < h.length:=by rw [<- R.len];exact hi
 obtain ⟨ob,hob⟩:∃ ob,h[i]?=some ob:=⟨_,List.getElem?_eq_getElem hl⟩
 obtain ⟨p,ep,r⟩:=R.obj i _ hob;rw [List.getElem?_eq_getElem hi] at ep;cases ep
 cases r with
 |lst q _=>rw [e] at q;cases q
 |@dT z _ _ q _=>rw [e] at q;cases z <;> cases q
 |dK q _=>rw [e] at q;cases q
 |ins _ q _=>rw [e] at q;cases q
theorem RelKV.val{κ:Type} [DecidableEq κ]{kvs:List (κ×D)}{us:List (κ×V)}(r:RelKV K α H kvs us)(k:κ):((kvs.find? fun kv=>decide (kv.1=k)).map (·.2)=none/\G0 us k=none)\/∃ d v,(kvs.find? fun kv=>decide (kv.1=k)).map (·.2)=some d/\G0 us k=some v/\RelD K α H d v:=by
 induction r with
 |nil=>exact .inl ⟨rfl,rfl⟩
 |@cons k' d u ds us hr t ih =>
  by_cases c:k'=k
  ·exact .inr ⟨d,u,by rw [List.find?_cons_of_pos (by simpa using c)];rfl,T6 (p:=(k',u)) c,hr⟩
  ·rw [List.find?_cons_of_neg (by simpa using c),S5 (p:=(k',u)) c];exact ih
theorem RelKV.put{kvs:List (List Key×D)}{us:List (List Key×V)}(r:RelKV K α H kvs us)(k:List Key){d:D}{v:V}(rd:RelD K α H d v):RelKV K α H (M9 kvs k d) (M4 us k v):=by
 have any:∀ {kvs:List (List Key×D)} {us:List (List Key×V)},RelKV K α H kvs us->(kvs.any fun kv=>decide (kv.1=k))=(us.any fun kv=>decide (kv.1=k)):=fun r=>by
  induction r with
  |nil=>rfl
  |cons _ _ ih=>rw [List.any_cons,List.any_cons,ih]
 unfold M9 M4;rw [any r]
 by_cases c:(us.any fun kv=>decide (kv.1=k))=true
 ·rw [if_pos c,if_pos c];clear c any
  induction r with
  |nil=>exact .nil
  |@cons k' d' u' ds us hr t ih =>
   rw [List.map_cons,List.map_cons]
   by_cases c:k'=k
   ·rw [if_pos c,if_pos c];exact .cons rd ih
   ·rw [if_neg c,if_neg c];exact .cons hr ih
 ·rw [if_neg c,if_neg c];clear c any
  induction r with
  |nil=>exact .cons rd .nil
  |cons hr t ih=>exact .cons hr ih
theorem HRel.rdT(R:HRel K α H h){i:Nat}{a:Addr}{z:Option Obj}{kvs:List (List Key×D)}(hp:α[i]?=some a)(e:h[i]?=some (.dT z kvs)):∃ us,Rd H a (.dT us)/\RelKV K α H kvs us:=by
 obtain ⟨p,us,e1,e2,e3⟩:=R.dT e;rw [hp] at e1;cases e1;refine ⟨us,?_,e3⟩
 cases z with
 |none=>exact .inl e2
 |some o=>exact .inr ⟨o,e2⟩
end
def getD(d k:D)(h:Hh)(Q:Option D->Prop):Prop:=match d with
 |.ref i=>match h[i]? with
  |some (.dT _ kvs)=>∃ ks,k=K0 ks/\Q (D5 kvs ks)
  |_=>False
 |_=>False
theorem O0{K:KP}{α:List Addr}{H:Hp}{h:Hh}{d k:D}{v u:V}{Q:Option D->Prop}(R:HRel K α H h)(r1:RelD K α H d v)(r2:RelD K α H k u)(f:getD d k h Q) :
  ∃ a o od,v = .ref a/\IsD H a/\Y7 H a u o/\Q od/\((od=none/\o=none)\/∃ x y,od=some x/\o=some y/\RelD K α H x y):=by
 unfold getD at f
 cases r1 with
 |@ref i a hp =>
  dsimp only at f
  cases q:h[i]? with
  |none=>rw [q] at f;exact f.elim
  |some ob =>
   rw [q] at f
   cases ob with
   |dT z kvs =>
    obtain ⟨ks,rfl,f⟩:=f;obtain ⟨b,rfl,hb⟩:=a3L r2;obtain ⟨us,rd,rel⟩:=R.rdT hp q;refine ⟨a,G0 us ks,D5 kvs ks,rfl,.inr ⟨us,rd⟩,.inr ⟨us,ks,b,rd,rfl,hb,rfl⟩,f,?_⟩
    rcases rel.val ks with ⟨h1,h2⟩ | ⟨x,y,h1,h2,h3⟩
    ·exact .inl ⟨h1,h2⟩
    ·exact .inr ⟨x,y,h1,h2,h3⟩
   |_=>exact f.elim
 |_=>exact f.elim
def a9y(neg:Bool):P2:=fun x y h Q=>getD y x h fun o=>Q (.bl (if neg then !o.isSome else o.isSome)) h
def a0C(fd fk:DE):DE:=fun δ h Q=>fd δ h fun d h1=>fk δ h1 fun k h2=>getD d k h2 fun o=>∃ v,o=some v/\Q v h2
def a8Y(d:D)(h:Hh):Prop:=∃ i z kvs,d = .ref i/\h[i]?=some (.dT z kvs)
def a8F(fd fk:DE):DE:=fun δ h Q=>fd δ h fun d h1=>a8Y d h1/\fk δ h1 fun k h2=>getD d k h2 fun o=>Q (o.getD .non) h2
def a3X(fd fk fx:DE):DE:=fun δ h Q=>fd δ h fun d h1=>a8Y d h1/\fk δ h1 fun k h2=>fx δ h2 fun x h3=>getD d k h3 fun o=>Q (o.getD x) h3
section
variable {X:Cx} {o i e f:Expr} {fd fk fx:DE} {pos apos cpos:Pos}
theorem b6q(hu:X.A.units + 64 < cLine):OpR X (compareOp .In) (r2 X.K (a9y false)):=OpR.imp (b7s (by omega)) fun x y H Q ⟨π,α,h,d,e,Q',R,r1,r2,f,k⟩=>by
 obtain ⟨a,o,od,rfl,_,g,q,rel⟩:=O0 R r2 r1 f;refine ⟨a,o,rfl,g,k _ h α H _ q (Ext.refl ..) R ?_⟩
 rcases rel with ⟨rfl,rfl⟩ | ⟨x,y,rfl,rfl,_⟩ <;> exact .bl _
theorem a4U(hu:X.A.units + 64 < cLine):OpR X (compareOp .NotIn) (r2 X.K (a9y true)):=OpR.imp (b4e (by omega)) fun x y H Q ⟨π,α,h,d,e,Q',R,r1,r2,f,k⟩=>by
 obtain ⟨a,o,od,rfl,_,g,q,rel⟩:=O0 R r2 r1 f;refine ⟨a,o,rfl,g,k _ h α H _ q (Ext.refl ..) R ?_⟩
 rcases rel with ⟨rfl,rfl⟩ | ⟨x,y,rfl,rfl,_⟩ <;> exact .bl _
theorem O7(hu:X.A.units + 64 < cLine)(ho:SE X o fd)(hi:SE X i fk)(hs:b0b i:=by exact fun _ _=>rfl):SE X (.Subscript o i pos) (a0C fd fk):=PE.imp (b3D (by omega) ho hi hs) fun σ H Q zz=>by
 obtain ⟨π,α,δ,h,Q',R,S,f,k⟩:=zz;refine ⟨π,α,δ,h,_,R,S,f,fun d h1 α1 H1 v1 f1 e1 R1 q1=>?_⟩;refine ⟨π,α1,δ,h1,_,R1,S.mono e1,f1,fun y h2 α2 H2 v2 f2 e2 R2 q2=>?_⟩;obtain ⟨a,o,od,rfl,_,g,⟨v,rfl,q⟩,rel⟩:=O0 R2 (q1.mono e2) q2 f2
 rcases rel with ⟨z,_⟩ | ⟨x,y,z,rfl,r⟩
 ·cases z
 ·cases z;exact ⟨a,y,rfl,g,k _ h2 α2 H2 _ q (e1.trans e2) R2 r⟩
theorem a2B{K:KP}{α:List Addr}{H:Hp}{h:Hh}{d:D}{v:V}(R:HRel K α H h)(r:RelD K α H d v)(q:a8Y d h):∃ a,v = .ref a/\IsD H a:=by
 obtain ⟨i,z,kvs,rfl,e⟩:=q
 cases r with
 |ref hp =>
  obtain ⟨us,rd,_⟩:=R.rdT hp e;exact ⟨_,rfl,.inr ⟨us,rd⟩⟩
theorem b0x(hu:X.A.units + 64 < cLine)(ho:SE X o fd)(he:SE X e fk)(m:M1 X o "get" apos e cpos):SE X (.Call (.Attribute o "get" apos) [e] [] cpos) (a8F fd fk):=PE.imp (a8m (by omega) ho he m) fun σ H Q zz=>by
 obtain ⟨π,α,δ,h,Q',R,S,f,k⟩:=zz;refine ⟨π,α,δ,h,_,R,S,f,fun d h1 α1 H1 v1 f1 e1 R1 q1=>?_⟩;obtain ⟨a,rfl,isd⟩:=a2B R1 q1 f1.1;refine ⟨a,rfl,isd,π,α1,δ,h1,_,R1,S.mono e1,f1.2,fun y h2 α2 H2 v2 f2 e2 R2 q2=>?_⟩;obtain ⟨a',o,od,ea,_,g,q,rel⟩:=O0 R2 (q1.mono e2) q2 f2;cases ea;refine ⟨o,g,k _ h2 α2 H2 _ q (e1.trans e2) R2 ?_⟩
 rcases rel with ⟨rfl,rfl⟩ | ⟨x,y,rfl,rfl,r⟩
 ·exact .non
 ·exact r
theorem a3e(hu:X.A.units + 64 < cLine)(ho:SE X o fd)(he:SE X e fk)(hf:SE X f fx)(m:M2 X o "get" apos e f cpos):SE X (.Call (.Attribute o "get" apos) [e,f] [] cpos) (a3X fd fk fx):=PE.imp (a7f (by omega) ho he hf m) fun σ H Q zz=>by
 obtain ⟨π,α,δ,h,Q',R,S,f,k⟩:=zz;refine ⟨π,α,δ,h,_,R,S,f,fun d h1 α1 H1 v1 f1 e1 R1 q1=>?_⟩;obtain ⟨a,rfl,isd⟩:=a2B R1 q1 f1.1;refine ⟨a,rfl,isd,π,α1,δ,h1,_,R1,S.mono e1,f1.2,fun y h2 α2 H2 v2 f2 e2 R2 q2=>?_⟩;refine ⟨π,α2,δ,h2,_,R2,S.mono (e1.trans e2),f2,fun x h3 α3 H3 v3 f3 e3 R3 q3=>?_⟩;obtain ⟨a',o,od,ea,_,g,q,rel⟩:=O0 R3 ((q1.mono e2).mono e3) (q2.mono e3) f3;cases ea;refine ⟨o,g,k _ h3 α3 H3 _ q (e1.trans (e2.trans e3)) R3 ?_⟩
 rcases rel with ⟨rfl,rfl⟩ | ⟨x,y,rfl,rfl,r⟩
 ·exact q3
 ·exact r
end
def a1B:DE:=fun _ h Q=>Q (.ref h.length) (h ++ [.dT none []])
def b3Y(d k v:D)(h:Hh)(Q:Hh->Prop):Prop:=match d with
 |.ref i=>match h[i]? with
  |some (.dT none kvs)=>∃ ks,k=K0 ks/\kvs.length < 16777216/\Q (h.set i (.dT none (M9 kvs ks v)))
  |_=>False
 |_=>False
def a5M(fd fk fv:DE):DS:=fun E δ h=>fv δ h fun v h1=>fd δ h1 fun d h2=>fk δ h2 fun k h3=>b3Y d k v h3 fun h4=>E.nx δ h4
section
variable {X:Cx} {o i value:Expr} {fd fk fv:DE} {pos pos':Pos}
theorem T3:SE X (.Dict [] [] pos) a1B:=PE.imp b0P fun σ H Q zz=>by
 obtain ⟨π,α,δ,h,Q',R,S,f,k⟩:=zz;intro p hp;have e:Ext α H (α ++ [p]) (upd H p (.dT [])):=Ext.newT hp;refine k _ _ (α ++ [p]) _ _ f e (R.newT hp (.dT (z:=none) j7 .nil)) (.ref ?_);rw [<- R.len];simp
theorem a8u{K:KP}{α:List Addr}{H:Hp}{h:Hh}{d k x:D}{v u y:V}{Q:Hh->Prop}(R:HRel K α H h)(r1:RelD K α H d v)(r2:RelD K α H k u)(r3:RelD K α H x y)(f:b3Y d k x h Q) :
  ∃ a H' h',v = .ref a/\DPut H a u y H'/\Q h'/\Ext α H α H'/\HRel K α H' h':=by
 unfold b3Y at f
 cases r1 with
 |@ref i a hp =>
  dsimp only at f
  cases q:h[i]? with
  |none=>rw [q] at f;exact f.elim
  |some ob =>
   rw [q] at f
   cases ob with
   |dT z kvs =>
    cases z with
    |some o=>exact f.elim
    |none =>
     obtain ⟨ks,rfl,hl,f⟩:=f;obtain ⟨b,rfl,hb⟩:=a3L r2;obtain ⟨p,us,e1,e2,e3⟩:=R.dT q;rw [hp] at e1;cases e1;have e2:H a=some (.dT us):=e2;have e:Ext α H α (upd H a (.dT (M4 us ks y))):=Ext.write (List.mem_of_getElem? hp)
     have ll:∀ {kvs:List (List Key×D)} {us:List (List Key×V)},RelKV K α H kvs us->kvs.length=us.length:=fun r=>by
      induction r with
      |nil=>rfl
      |cons _ _ ih=>rw [List.length_cons,List.length_cons,ih]
     exact ⟨a,_,_,rfl,DPut.t e2 hb (by rw [sizeLine_eq,<- ll e3];exact hl),f,e,R.write hp (.dT (z:=none) j7 ((e3.put ks r3).mono e))⟩
   |_=>exact f.elim
 |_=>exact f.elim
theorem a4h(hu:X.A.units + 64 < cLine)(ho:SE X o fd)(hi:SE X i fk)(hv:SE X value fv)(hs:swapsWith value (some (.Subscript o i pos')) pos.line X.env=pure false:=by rfl) :
  SS X (.Assign [.Subscript o i pos'] value pos) (a5M fd fk fv):=PS.imp (b1T (by omega) ho hi hv hs) fun F σ H zz=>by
 obtain ⟨π,α,δ,h,E,R,S,f,k⟩:=zz;refine ⟨π,α,δ,h,_,R,S,f,fun x h1 α1 H1 v1 f1 e1 R1 q1=>?_⟩;refine ⟨π,α1,δ,h1,_,R1,S.mono e1,f1,fun d h2 α2 H2 v2 f2 e2 R2 q2=>?_⟩;refine ⟨π,α2,δ,h2,_,R2,S.mono (e1.trans e2),f2,fun y h3 α3 H3 v3 f3 e3 R3 q3=>?_⟩;obtain ⟨a,H',h',rfl,g,q,e4,R4⟩:=a8u R3 (q2.mono e3) q3 ((q1.mono e2).mono e3) f3;have e:=e1.trans (e2.trans e3);exact ⟨a,H',rfl,g,k.nx δ h' α3 H' σ q (e.trans e4) R4 ((S.mono e).mono e4)⟩
end
def a0m(f:DE):DI:=fun δ h Q=>f δ h fun d h1=>match d with
 |.ref i=>match h1[i]? with
  |some (.dT none kvs)=>∀ o,Q ⟨kvs.map fun kv=>K0 kv.1,[(i,.dT (some o) kvs)]⟩ (h1.set i (.dT (some o) kvs))
  |_=>False
 |_=>False
theorem RelKV.keys{K:KP}{α:List Addr}{H:Hp}{κ:Type}{kvs:List (κ×D)}{us:List (κ×V)}(r:RelKV K α H kvs us):us.map (·.1)=kvs.map (·.1):=by
 induction r with
 |nil=>rfl
 |cons _ _ ih=>rw [List.map_cons,List.map_cons,ih]
theorem b3P{K:PySem.W.Frag}{π α:List Addr}{H:Hp}{i:Nat}{a:Addr}{o:Obj}{kvs:List (List Key×D)}(hp:α[i]?=some a):ItA K π α H (Itk a o (kvs.map (·.1))) ⟨kvs.map fun kv=>K0 kv.1,[(i,.dT (some o) kvs)]⟩:=fun π' sub=>by
 refine ⟨fun α _=>α[i]?=some a,⟨fun α H α' H' st e=>e.get st,fun α H H' D st _ _=>st,fun α H h j d R st ok hj=>?_,fun α H h R st ok=>?_⟩,hp⟩
 ·have hh:h[i]?=some (.dT (some o) kvs):=ok (i,.dT (some o) kvs) List.mem_cons_self;obtain ⟨p,us,e1,e2,e3⟩:=R.dT hh;rw [st] at e1;cases e1;have hj:(kvs.map fun kv=>K0 kv.1)[j]?=some d:=hj;rw [List.getElem?_map] at hj
  cases q:kvs[j]? with
  |none=>rw [q] at hj;cases hj
  |some kv =>
   rw [q] at hj;cases hj;refine ⟨⟨⟨us,e2,e3.keys⟩,by rw [List.length_map];exact (List.getElem?_eq_some_iff.mp q).1⟩,fun x H' y=>?_⟩;obtain ⟨rfl,b,k,h1,rfl,h3⟩:=y;rw [List.getElem?_map,q] at h1;cases h1;exact ⟨Ext.refl ..,R,b0M R h3⟩
 ·have hh:h[i]?=some (.dT (some o) kvs):=ok (i,.dT (some o) kvs) List.mem_cons_self;obtain ⟨p,us,e1,e2,e3⟩:=R.dT hh;rw [st] at e1;cases e1;exact ⟨⟨us,e2,e3.keys⟩,by rw [List.length_map];show kvs.length <= (kvs.map fun kv=>K0 kv.1).length;rw [List.length_map];exact Nat.le_refl _⟩
section
variable {X:Cx} {tg:Expr}
theorem a5G{l:Expr}{f:DE}(hl:SE X l f):SI X tg l (a0m f):=PI.imp (a7z hl) fun σ H Q zz0=>by
 obtain ⟨π,α,δ,h,Q',R,S,f,k⟩:=zz0;refine ⟨π,α,δ,h,_,R,S,f,fun d h1 α1 H1 v1 f1 e1 R1 q1=>?_⟩
 cases q1 with
 |@ref i a hp =>
  dsimp only at f1
  cases q:h1[i]? with
  |none=>rw [q] at f1;exact f1.elim
  |some ob =>
   rw [q] at f1
   cases ob with
   |dT z kvs =>
    cases z with
    |some o=>exact f1.elim
    |none =>
     obtain ⟨p,us,e2,e3,e4⟩:=R1.dT q;rw [hp] at e2;cases e2;have e3:H1 a=some (.dT us):=e3;refine ⟨a,us,rfl,e3,fun o=>?_⟩;have e:Ext α1 H1 α1 (upd H1 a (.frz o (.dT us))):=Ext.write (List.mem_of_getElem? hp);rw [e4.keys];refine k _ _ α1 _ _ (f1 o) (e1.trans e) (R1.write hp (.dT (z:=some o) j7 (e4.mono e))) (b3P hp) fun p hp'=>?_;rw [List.mem_singleton.mp hp',List.getElem?_set_self (List.getElem?_eq_some_iff.mp q).1]
   |_=>exact f1.elim
 |_=>exact f1.elim
end
def thaw(h0:Hh)(h:Hh)(Q:Hh->Prop):Prop:=∃ i o kvs kvs0,h0[i]?=some (.dT none kvs0)/\h[i]?=some (.dT (some o) kvs)/\Q (h.set i (.dT none kvs))
def thE(h0:Hh)(E:E8):E8:={ nx:=fun δ h=>thaw h0 h fun h'=>E.nx δ h',rt:=fun d h=>thaw h0 h fun h'=>E.rt d h',bk:=fun δ h=>thaw h0 h fun h'=>E.bk δ h',ct:=fun δ h=>thaw h0 h fun h'=>E.ct δ h',ex:=fun _ _ _=>False }
def thH(H:Hp)(H':Hp)(Q:Hp->Prop):Prop:=∃ a o u us,H' a=some (.frz o u)/\H a=some (.dT us)/\Q (upd H' a u)
theorem O8{K:KP}{α α':List Addr}{H H':Hp}{h h':Hh}{Q:Hh->Prop}{Q':Hp->Prop}(R:HRel K α H h)(e:Ext α H α' H')(R':HRel K α' H' h')(f:thaw h h' Q)(k:∀ h2 H2,Q h2->Ext α' H' α' H2->HRel K α' H2 h2->Q' H2):thH H H' Q':=by
 obtain ⟨i,o,kvs,kvs0,e0,e1,q⟩:=f;obtain ⟨a,us0,a1,a2,_⟩:=R.dT e0;obtain ⟨a',us,b1,b2,b3⟩:=R'.dT e1;rw [e.get a1] at b1;cases b1;have x:Ext α' H' α' (upd H' a (.dT us)):=Ext.write (List.mem_of_getElem? (e.get a1));exact ⟨a,o,.dT us,us0,b2,a2,k _ _ q x (R'.write (e.get a1) (.dT (z:=none) j7 (b3.mono x)))⟩
theorem thH.thaw{X:Cx}{pins:List (Addr×Obj)}{σ σ':L2.St}{H H':Hp}{s s':Shared}{Q:Hp->Prop}(I:Inv X pins σ H s)(I':Inv X pins σ' H' s')(f:thH H H' Q):∃ H2,Inv X pins σ' H2 s'/\Q H2:=by
 obtain ⟨a,o,u,us,h1,h2,q⟩:=f;refine ⟨_,I'.thaw h1 fun o' u' y=>?_,q⟩
 have:=I.base.frzs a o' u' y
 rw [h2] at this;cases this
end DL
namespace PySem
section
variable {prog:Program} {w:World} {K:Type} [DecidableEq K] {knd:HeapKind prog w K} {A:Around} {E:Value->Shared->Prop} {s:Shared}
theorem a3u{d a:Addr}{xs:List (K×Addr×Value)}{k:K}{v:Value}{Q:Value->Shared->Prop}(hu:knd.room A)(hkey:knd.is s.heap k a)(hm:s.heap.DictOfH knd d xs)(hsz:xs.length <= sizeLine)
  (h1:∀ p,atKey xs k=some p->Q p.2 { s with toks:=s.toks + knd.draws k })
  (h2:atKey xs k=none->∀ h',h'.DictOfH knd d (storedH xs k a v)->Heap.SameBut d s.heap h'->Q v { s with heap:=h',toks:=s.toks + knd.draws k }) :
  wpAny (model prog w) A (dictSetDefault d (.ref a) v) Q E s:=by
 obtain ⟨o,es,ep,ho,hc,hd,he,his,hn⟩:=hm;unfold dictSetDefault
 try with_reducible refine wpAny_holding ?_
 refine wpAny_bind (knd.pyHash hu hkey ?_);refine wpAny_bind (wpAny_dictFind_heap (s:={ s with toks:=s.toks + knd.draws k }) hu hkey ho hd he his hn ?_ ?_)
 ·intro hno;have hnot:k ∉ xs.map (·.1):=not_mem_keys_of_get hno
  refine wpAny_bind (wpAny_rule (wpAny_bind (wpAny_updateDictKeys (hz:=by have e:=size_of_entries he;omega) (s:={ s with toks:=s.toks + knd.draws k }) ho hd (wpAny_pure (h2 (atKey_none_of_get hno) _ ⟨_,_,ep + 1,Heap.get?_update_self _ ho (Obj.isFreed_of_dict (Obj.data_mapDictKeys hd _)),
   hc.mapDictKeys _,Obj.data_mapDictKeys hd _,?_,?_,?_⟩ (Heap.SameBut.update ..))))))
  ·rw [storedH_new (atKey_none_of_get hno)]
   simp [he,entryOfKey]
  ·rw [storedH_new (atKey_none_of_get hno)];intro x hx
   rcases List.mem_append.mp hx with hx | hx
   ·exact knd.keeps (his x hx) ho hd (Heap.SameBut.update ..)
   ·simp only [List.mem_singleton] at hx;subst hx;exact knd.keeps hkey ho hd (Heap.SameBut.update ..)
  ·rw [storedH_new (atKey_none_of_get hno)];rw [List.map_append,List.nodup_append];refine ⟨hn,by simp,?_⟩;intro x hx y hy;simp only [List.map_cons,List.map_nil,List.mem_singleton] at hy;subst hy;exact fun e=>hnot (e ▸ hx)
 ·intro j p hj;refine wpAny_bind (wpAny_dictEntries (s:={ s with toks:=s.toks + knd.draws k }) ho hd ?_);have e1:es[j]?=some (entryOfKey knd (k,p)):=by rw [entry_at he j,hj];rfl
  rw [e1];exact wpAny_bind (wpAny_rule (wpAny_pure (h1 p (atKey_of_get hn hj))))
theorem a1a(knd:HeapKind prog w K)(d a:Addr)(hd:(d == sysModules)=false)(v:Value) :
  MeetsIn prog w (Builtin.«dict.setdefault» ⟨[.ref d,.ref a,v],[]⟩) (fun A R s=>knd.room A.in1/\∃ k xs,knd.is s.heap k a/\s.heap.DictOfH knd d xs/\xs.length <= sizeLine /\
   (∀ p,atKey xs k=some p->R (.ok (.ret p.2)) { s with toks:=s.toks + knd.draws k }) /\
   (atKey xs k=none->∀ h',h'.DictOfH knd d (storedH xs k a v)->Heap.SameBut d s.heap h'->R (.ok (.ret v)) { s with heap:=h',toks:=s.toks + knd.draws k })) :=
 .of_wp fun A R s ⟨hu,k,xs,hkey,hm,hz,h1,h2⟩=>by
  unfold Builtin.«dict.setdefault»;refine wpAny_bind ?_;unfold Builtin.Dict.keyAndDefault;refine wpAny_bind (wpAny_notOrdered_dict hm.typeIs ?_);show wpAny _ _ (pure (d,Value.ref a,some v)) _ _ s;refine wpAny_pure ?_;show wpAny _ _ (if (d == sysModules)=true then _ else (dictSetDefault d (.ref a) v >>= _)) _ _ s;rw [if_neg (by rw [hd];exact Bool.false_ne_true)];exact wpAny_bind (a3u hu hkey hm hz (fun p hp=>wpAny_pure ⟨p.2,rfl,h1 p hp⟩) fun hn h' hm' hs'=>wpAny_pure ⟨v,rfl,h2 hn h' hm' hs'⟩)
end
end PySem
namespace L2
open PySem PySem.Spec PyProof.Rows
section
variable {X:Cx} {pins:List (Addr×Obj)} {σ:St} {H:Hp} {s:Shared} {a b:Addr} {kvs:List (List Key×V)} {k:List Key} {v:V} {u r:Value} {A:Around} {E:Value->Shared->Prop}
theorem a6j{Q:Value->Shared->Prop}(hu:A.units + 1 < cLine)(I:Inv X pins σ H s)(e:H a=some (.dT kvs))(eb:H b=some (.tup (k.map kV)))(rv:RelV v r)(l:kvs.length < sizeLine)
  (h1:∀ v0,G0 kvs k=some v0->∀ w' s',Inv X pins σ H s'->RelV v0 w'->Q w' s') (h2:G0 kvs k=none->∀ s',Inv X pins σ (upd H a (.dT (M4 kvs k v))) s'->Q r s') :
  wpAny (model X.prog X.w) A (call (.builtin "dict.setdefault") [.ref a,.ref b,r]) Q E s:=by
 obtain ⟨z,hd,xs,rel,dd⟩:=b4Y I.hok e;have hz:xs.length <= sizeLine:=by rw [<- Paired.length rel];exact z
 have hl:(M4 kvs k v).length <= sizeLine:=by have:=N6 kvs k v;omega
 have rv':=rel.val k;refine call_meetsIn PySem.F.slot_dict_setdefault dd.typeIs PySem.F.entry_dict_setdefault (PySem.F.args_dict_setdefault_3 _ _ _) (a1a (tupleKind (o7 X.prog X.w)) a b hd r) ⟨tupleKind_room_in1 hu,k,xs,N8 I.hok eb,dd,hz,fun p hp=>?_,fun hn h' dd' hs=>?_⟩
 ·cases q:G0 kvs k with
  |none=>rw [q,hp] at rv';cases rv'
  |some v0 =>
   obtain ⟨w2,e2,r2⟩:=RelO.some_of (v:=v0) (o:=(atKey xs k).map (·.2)) (by rw [<- q];exact rel.val k);rw [hp] at e2;cases e2;exact h1 v0 q _ _ (I.tok _) r2
 ·have q:G0 kvs k=none:=by
   cases q:G0 kvs k with
   |none=>rfl
   |some v0=>rw [q,hn] at rv';cases rv'
  obtain ⟨q',es,ep,hq,g2,g3,g4,_,g5⟩:=dd';refine h2 q _ (a2y I (by rw [e];exact True.intro) hs ⟨q',hq⟩ ⟨hl,hd,_,(rel.put k eb rv).keeps fun c ys ec=>?_,q',es,ep,hq,g2,g3,g4,g5⟩);rw [k6 (a7r ec e (fun z=>nomatch z))];exact ec
end
def b8e(td ty tx:TE):TE:=fun σ H Q=>td σ H fun x H1=>∃ a,x = .ref a/\IsD H1 a/\ty σ H1 fun y H2=>tx σ H2 fun z H3=>∃ kvs k b,H3 a=some (.dT kvs)/\y = .ref b/\H3 b=some (.tup (k.map kV))/\kvs.length < sizeLine /\
 (∀ v,G0 kvs k=some v->Q v H3)/\(G0 kvs k=none->Q z (upd H3 a (.dT (M4 kvs k z))))
theorem a8D{X:Cx}{o e f:Expr}{apos cpos:Pos}{td ty tx:TE}(hu:X.A.units + 1 < cLine)(ho:PE X o td)(he:PE X e ty)(hf:PE X f tx)(m:M2 X o "setdefault" apos e f cpos):PE X (.Call (.Attribute o "setdefault" apos) [e,f] [] cpos) (b8e td ty tx):=by
 intro pins s σ H Q I h;refine wpAny_Call_method m.base m.few m.line PySem.F.plainAttrs_dict PySem.F.slot_dict_setdefault PySem.F.type_dict_setdefault (thn (ho pins s σ H _ I h) fun u s1 zz0=>?_);obtain ⟨x,H1,I1,rx,a,ex,d,q1⟩:=zz0;subst ex
 obtain rfl:u=Value.ref a:=rx
 obtain ⟨t1,t2,_⟩:=a4p I1 d;refine ⟨t1,t2,?_⟩;rw [m.trees]
 refine Calls.callWith_builtin rfl (Calls.evalArgs_plain (Calls.spliced_cons (thn (he pins s1 σ H1 _ I1 q1) fun iv s2 ⟨y,H2,I2,ry,q2⟩ =>
  Calls.spliced_cons (thn (hf pins s2 σ H2 _ I2 q2) fun fv s3 ⟨z,H3,I3,rz,kvs,k,b,ea,ey,eb,l,g1,g2⟩=>Calls.spliced_nil ?_))))
 subst ey
 obtain rfl:iv=Value.ref b:=ry
 exact a6j hu I3 ea eb rz l (fun v0 hv w' s' I' rw'=>⟨v0,H3,I',rw',g1 v0 hv⟩) (fun hn s' I'=>⟨z,_,I',rz,g2 hn⟩)
end L2
namespace DL
open PySem PySem.Spec L2
def b8y(d k x:D)(h:Hh)(Q:DK):Prop:=match d with
 |.ref i=>match h[i]? with
  |some (.dT none kvs)=>∃ ks,k=K0 ks/\kvs.length < 16777216/\(match D5 kvs ks with | some v=>Q v h | none=>Q x (h.set i (.dT none (M9 kvs ks x))))
  |_=>False
 |_=>False
def a7N(fd fk fx:DE):DE:=fun δ h Q=>fd δ h fun d h1=>a8Y d h1/\fk δ h1 fun k h2=>fx δ h2 fun x h3=>b8y d k x h3 Q
theorem a4z{X:Cx}{o e f:Expr}{fd fk fx:DE}{apos cpos:Pos}(hu:X.A.units + 64 < cLine)(ho:SE X o fd)(he:SE X e fk)(hf:SE X f fx)(m:M2 X o "setdefault" apos e f cpos):SE X (.Call (.Attribute o "setdefault" apos) [e,f] [] cpos) (a7N fd fk fx):=PE.imp (a8D (by omega) ho he hf m) fun σ H Q zz=>by
 obtain ⟨π,α,δ,h,Q',R,S,f,k⟩:=zz;refine ⟨π,α,δ,h,_,R,S,f,fun d h1 α1 H1 v1 f1 e1 R1 q1=>?_⟩;obtain ⟨isd,f1⟩:=f1;obtain ⟨a0,rfl,ia⟩:=a2B R1 q1 isd;refine ⟨a0,rfl,ia,π,α1,δ,h1,_,R1,S.mono e1,f1,fun y h2 α2 H2 v2 f2 e2 R2 q2=>?_⟩;refine ⟨π,α2,δ,h2,_,R2,S.mono (e1.trans e2),f2,fun x h3 α3 H3 v3 f3 e3 R3 q3=>?_⟩;unfold b8y at f3;have q1':=(q1.mono e2).mono e3
 cases q1' with
 |@ref i _ hp =>
  dsimp only at f3
  cases q:h3[i]? with
  |none=>rw [q] at f3;exact f3.elim
  |some ob =>
   rw [q] at f3
   cases ob with
   |dT z kvs =>
    cases z with
    |some o=>exact f3.elim
    |none =>
     obtain ⟨ks,rfl,hl,f3⟩:=f3;obtain ⟨b,rfl,hb⟩:=a3L (q2.mono e3);obtain ⟨p,us,z1,z2,z3⟩:=R3.dT q;rw [hp] at z1;cases z1;have z2:H3 a0=some (.dT us):=z2;have ee:Ext α3 H3 α3 (upd H3 a0 (.dT (M4 us ks v3))):=Ext.write (List.mem_of_getElem? hp)
     have ll:∀ {kvs:List (List Key×D)} {us:List (List Key×V)},RelKV ⟨X.K,π⟩ α3 H3 kvs us->kvs.length=us.length:=fun r=>by
      induction r with
      |nil=>rfl
      |cons _ _ ih=>rw [List.length_cons,List.length_cons,ih]
     refine ⟨us,ks,b,z2,rfl,hb,by rw [sizeLine_eq,<- ll z3];exact hl,fun v0 hv=>?_,fun hn=>?_⟩
     ·rcases z3.val ks with ⟨g1,g2⟩ | ⟨x',y',g1,g2,g3⟩
      ·rw [g2] at hv;cases hv
      ·rw [g2] at hv;cases hv
       have:D5 kvs ks=some x':=g1
       rw [this] at f3;exact k _ _ α3 _ _ f3 (e1.trans (e2.trans e3)) R3 g3
     ·rcases z3.val ks with ⟨g1,g2⟩ | ⟨x',y',g1,g2,g3⟩
      ·have:D5 kvs ks=none:=g1
       rw [this] at f3;exact k _ _ α3 _ _ f3 (e1.trans (e2.trans (e3.trans ee))) (R3.write hp (.dT (z:=none) j7 ((z3.put ks q3).mono ee))) (q3.mono ee)
      ·rw [g2] at hn;cases hn
   |_=>exact f3.elim
 |_=>exact f3.elim
end DL
namespace L2
open PySem PySem.Spec PyProof.Rows
section
variable {prog:Program} {w:World} {A:Around} {E:Value->Shared->Prop} {s:Shared}
end
end L2
namespace L2
open PySem PySem.Spec PyProof.Rows
section
variable {X:Cx}
end
end L2
namespace L2
open PySem PySem.Spec PyProof.Rows
section
variable {X:Cx} {tg:Expr}
end
end L2
namespace DL
open PySem PySem.Spec L2
def itD(kv:List Key×D):D:=.tup [K0 kv.1,kv.2]
def c1h(f:DE):DI:=fun δ h Q=>f δ h fun d h1=>match d with
 |.ref i=>match h1[i]? with
  |some (.dT none kvs)=>∀ o,Q ⟨kvs.map itD,[(i,.dT (some o) kvs)]⟩ (h1.set i (.dT (some o) kvs))
  |_=>False
 |_=>False
theorem RelKV.get{K:KP}{α:List Addr}{H:Hp}{κ:Type}{kvs:List (κ×D)}{us:List (κ×V)}(r:RelKV K α H kvs us):∀ {i:Nat} {p:κ×V},us[i]?=some p->∃ d,kvs[i]?=some (p.1,d)/\RelD K α H d p.2:=by
 induction r with
 |nil=>intro i p e;simp at e
 |cons r _ ih =>
  intro i p e
  cases i with
  |zero=>simp at e;subst e;exact ⟨_,rfl,r⟩
  |succ i =>
   obtain ⟨d,h1,h2⟩:=ih (i:=i) (p:=p) (by simpa using e);exact ⟨d,by simpa using h1,h2⟩
section
variable {X:Cx} {tg:Expr}
end
def a1m(s:DI)(t:DG)(b:DS):DS:=fun E δ h=>E2 s t b (thE h E) δ h
theorem b0A{X:Cx}{tg iter:Expr}{body:List Stmt}{sr:DI}{t:DG}{b:DS}{pos:Pos}(hp:PassesOwn (model X.prog X.w) X.A X.env X.xe)(hc:X.calm=true)(hi:SI X tg iter sr)(hg:SG X tg t)(hb:SSs X body b)
  (hs:∀ x,foldedSetIterable iter X.env x=pure x:=by intro _;rfl):SS X (.For tg iter body [] pos) (a1m sr t b):=by
 intro pins s σ H D I zz;obtain ⟨π,α,δ,h,E,R,S,q,k⟩:=zz
 have w:=A5 (pos:=pos) hp hc hi hg hb hs pins s σ H { nx:=fun σ' H'=>thH H H' fun H2=>D.nx σ' H2,rt:=fun v H'=>thH H H' fun H2=>D.rt v H2,bk:=fun σ' H'=>thH H H' fun H2=>D.bk σ' H2,ct:=fun σ' H'=>thH H H' fun H2=>D.ct σ' H2 } I
  ⟨π,α,δ,h,thE h E,R,S,q,⟨fun δ' h' α' H' σ' a e R' S'=>O8 R e R' a fun h2 H2 z x R2=>k.nx δ' h2 α' H2 σ' z (e.trans x) R2 (S'.mono x),fun d h' α' H' v a e R' r=>O8 R e R' a fun h2 H2 z x R2=>k.rt d h2 α' H2 v z (e.trans x) R2 (r.mono x),
   fun δ' h' α' H' σ' a e R' S'=>O8 R e R' a fun h2 H2 z x R2=>k.bk δ' h2 α' H2 σ' z (e.trans x) R2 (S'.mono x),fun δ' h' α' H' σ' a e R' S'=>O8 R e R' a fun h2 H2 z x R2=>k.ct δ' h2 α' H2 σ' z (e.trans x) R2 (S'.mono x),fun _ _ _ _ _ _ _ a _ _ _=>a.elim⟩⟩
 refine thn w fun fl s' z=>?_
 cases fl with
 |ret u =>
  obtain ⟨v,σ',H',I',r,z⟩:=z;obtain ⟨H2,I2,z⟩:=thH.thaw I I' z;exact ⟨v,σ',H2,I2,r,z⟩
 |_ =>
  obtain ⟨σ',H',I',z⟩:=z;obtain ⟨H2,I2,z⟩:=thH.thaw I I' z;exact ⟨σ',H2,I2,z⟩
end DL
namespace L2
open PySem PySem.Spec PyProof.Rows
section
variable {prog:Program} {w:World} {A:Around} {E:Value->Shared->Prop} {s:Shared}
end
section
variable {X:Cx}
end
end L2
namespace DL
open PySem PySem.Spec L2
def c3b:PN:=fun ds h Q=>∃ i z kvs,ds=[.ref i]/\h[i]?=some (.dT z kvs)/\Q (.int kvs.length) h
end DL
namespace L2
open PySem PySem.Spec PyProof.Rows
section
variable {prog:Program} {w:World} {A:Around}
end
section
variable {X:Cx}
end
end L2
namespace DL
open PySem PySem.Spec L2
def c1N(f:DA):DN:=fun δ h Q=>f δ h fun ds h1=>∃ i z kvs,ds=[.ref i]/\h1[i]?=some (.dT z kvs)/\Q (kvs.map fun kv=>K0 kv.1) h1
section
variable {X:Cx} {e:Expr} {es:List Expr} {n:Nat} {f:DA} {p pos:Pos}
end
end DL
namespace L2
open PySem PySem.Spec PyProof.Rows
section
variable {X:Cx} {pins:List (Addr×Obj)} {σ:St} {H:Hp} {s:Shared} {a b:Addr} {A:Around} {E:Value->Shared->Prop}
end
end L2
namespace L2
open PySem PySem.Spec PyProof.Rows
end L2
namespace DL
open PySem PySem.Spec L2
section
variable {X:Cx} {o e:Expr} {fd:DE} {fs:DA} {n:Nat} {apos cpos:Pos} {es:List Expr}
end
end DL
namespace SR
open PySem PyProof.Rows
section
variable {prog:Program} {w:World} {A:Around} {E:Value->Shared->Prop} {s:Shared} {a₀:List Keyed} {κ:SortKind}
def Of(a₀:List Keyed)(xs:Array Keyed):Prop:=∀ x ∈ xs,x ∈ a₀
theorem Of.ext{xs:Array Keyed}{i j:Nat}(h:Of a₀ xs):Of a₀ (xs.extract i j):=fun y hy=>by
 obtain ⟨k,hk,e⟩:=Array.mem_extract_iff_getElem.mp hy;exact h y (e ▸ Array.getElem_mem _)
section
variable {β γ:Type} {st:SortSt} {enc:Array Keyed->Nat->Nat->Nat->Nat->Nat->β} {RY RD:Array Keyed->Nat->Nat->Prop} {g i j z u v:Nat} {o:Array Keyed}
end
end
end SR
namespace SR
open PySem PyProof.Rows
section
variable {prog:Program} {w:World} {A:Around} {E:Value->Shared->Prop} {s:Shared} {a₀:List Keyed} {κ:SortKind} {N:Nat}
end
end SR
namespace SR
open PySem PyProof.Rows PySem.W
section
variable {prog:Program} {w:World} {A:Around} {E:Value->Shared->Prop} {s:Shared}
end
end SR
namespace SR
open PySem PyProof.Rows PySem.W
section
variable {prog:Program} {w:World} {A:Around} {E:Value->Shared->Prop} {s:Shared}
end
end SR
namespace L2
open PySem PySem.Spec PyProof.Rows
section
variable {X:Cx}
end
end L2
namespace DL
open PySem PySem.Spec L2
section
variable {X:Cx} {e:Expr} {es:List Expr} {n:Nat} {f:DA} {p pos:Pos}
end
end DL
namespace L2
open PySem PySem.Spec PyProof.Rows
section
variable {prog:Program} {w:World} {A:Around} {E:Value->Shared->Prop} {s:Shared}
end
section
variable {X:Cx}
end
end L2
namespace DL
open PySem PySem.Spec L2
section
variable {X:Cx} {e:Expr} {es:List Expr} {n:Nat} {f:DA} {p pos:Pos}
end
end DL
namespace L2
open PySem PySem.Spec PyProof.Rows
section
variable {P P':Program} {w w':World}
end
section
variable {A:Around} {s:Shared} {a b:Addr} {xs ys:List (List Key×Addr×Value)}
end
section
variable {X:Cx} {pins:List (Addr×Obj)} {σ:St} {H:Hp} {s:Shared} {a b:Addr} {A:Around}
end
end L2
namespace DL
open PySem PySem.Spec L2
end DL
namespace DL
open PySem PySem.Spec L2
def c3q(i j:Nat)(fs:DA):DS:=fun E δ h=>fs δ h fun ds h1=>∃ a b,ds=[a,b]/\E.nx ((δ.set i (some a)).set j (some b)) h1
end DL
namespace CM
open PySem L2 DL
abbrev Kt:=List Nat
abbrev Ct:=List (Kt×Nat)
def kN(k:Kt):List Key:=k.map fun n:Nat=>.inl (n:Int)
def tbD(m:Ct):List (List Key×D):=m.map fun x=>(kN x.1,nD x.2)
def tkD(k:Kt):D:=.tup (k.map nD)
def look(m:Ct)(k:Kt):Option Nat:=(m.find? fun x=>decide (x.1=k)).map (·.2)
def A2(m:Ct)(k:Kt)(v:Nat):Ct:=if (m.any fun x=>decide (x.1=k))=true then m.map (fun x=>if x.1=k then (x.1,v) else x) else m ++ [(k,v)]
theorem R6(k:Kt):K0 (kN k)=tkD k:=by unfold K0 kN tkD;rw [List.map_map];rfl
theorem a2d:∀ {a b:Kt},kN a=kN b->a=b
 |[],[],_=>rfl
 |[],_ :: _,h=>nomatch h
 |_ :: _,[],h=>nomatch h
 |x :: a,y :: b,h=>by
  have h:(Sum.inl (x:Int):Key) :: kN a=Sum.inl (y:Int) :: kN b:=h
  injection h with h1 h2
  injection h1 with h1
  rw [Int.ofNat.inj h1,a2d h2]
theorem b5C{a b:Kt}:kN a=kN b ↔ a=b:=⟨a2d,fun h=>by rw [h]⟩
theorem a7o(a b:Kt):decide (kN a=kN b)=decide (a=b):=decide_eq_decide.mpr b5C
theorem b5T(m:Ct)(k:Kt):D5 (tbD m) (kN k)=(look m k).map nD:=by
 unfold D5 tbD look;rw [List.find?_map,Option.map_map,Option.map_map]
 have:((fun kv:List Key×D=>decide (kv.1=kN k)) ∘ fun x:Kt×Nat=>(kN x.1,nD x.2))=fun x=>decide (x.1=k):=by funext x;exact a7o _ _
 rw [this];rfl
theorem b6e(m:Ct)(k:Kt)(v:Nat):M9 (tbD m) (kN k) (nD v)=tbD (A2 m k v):=by
 unfold M9 tbD A2;rw [List.any_map]
 have:((fun kv:List Key×D=>decide (kv.1=kN k)) ∘ fun x:Kt×Nat=>(kN x.1,nD x.2))=fun x=>decide (x.1=k):=by funext x;exact a7o _ _
 rw [this]
 by_cases c:(m.any fun x=>decide (x.1=k))=true
 ·rw [if_pos c,if_pos c,List.map_map,List.map_map]
  congr 1;funext x
  show (if kN x.1=kN k then (kN x.1,nD v) else (kN x.1,nD x.2))=_
  by_cases e:x.1=k
  ·rw [if_pos (by rw [e])];show _=(fun x:Kt×Nat=>(kN x.1,nD x.2)) (if x.1=k then (x.1,v) else x);rw [if_pos e]
  ·rw [if_neg fun z=>e (a2d z)];show _=(fun x:Kt×Nat=>(kN x.1,nD x.2)) (if x.1=k then (x.1,v) else x);rw [if_neg e]
 ·rw [if_neg c,if_neg c,List.map_append];rfl
theorem b7Z(m:Ct):(tbD m).length=m.length:=List.length_map ..
theorem G9{h:Hh}{i:Nat}{z:Option Obj}{m:Ct}{k:Kt}{Q:Option D->Prop}(e:h[i]?=some (.dT z (tbD m)))(q:Q ((look m k).map nD)):DL.getD (.ref i) (tkD k) h Q:=by
 show (match h[i]? with | some (.dT _ kvs)=>∃ ks,tkD k=K0 ks/\Q (D5 kvs ks) | _=>False);rw [e];exact ⟨kN k,(R6 k).symm,by rw [b5T];exact q⟩
theorem b2F{h:Hh}{i:Nat}{z:Option Obj}{m:Ct}(e:h[i]?=some (.dT z (tbD m))):a8Y (.ref i) h:=⟨i,z,_,rfl,e⟩
theorem a1N{h:Hh}{i:Nat}{m:Ct}{k:Kt}{v:Nat}{Q:Hh->Prop}(e:h[i]?=some (.dT none (tbD m)))(hl:m.length < 16777216)(q:Q (h.set i (.dT none (tbD (A2 m k v))))):b3Y (.ref i) (tkD k) (nD v) h Q:=by
 show (match h[i]? with | some (.dT none kvs)=>∃ ks,tkD k=K0 ks/\kvs.length < 16777216/\Q (h.set i (.dT none (M9 kvs ks (nD v)))) | _=>False);rw [e];exact ⟨kN k,(R6 k).symm,by rw [b7Z];exact hl,by rw [b6e];exact q⟩
def keys(m:Ct):List Kt:=m.map (·.1)
theorem z7(x:Kt×Nat)(m:Ct)(k:Kt):look (x :: m) k=if x.1=k then some x.2 else look m k:=by
 unfold look;rw [List.find?_cons]
 by_cases e:x.1=k
 ·rw [decide_eq_true e,if_pos e];rfl
 ·rw [decide_eq_false e,if_neg e]
theorem a3g{m:Ct}{k:Kt}{c:Nat}(h:look m k=some c):(k,c) ∈ m:=by
 induction m with
 |nil=>cases h
 |cons x m ih =>
  rw [z7] at h
  by_cases e:x.1=k
  ·rw [if_pos e] at h;cases h;subst e;exact List.mem_cons_self
  ·rw [if_neg e] at h;exact List.mem_cons_of_mem _ (ih h)
theorem a4O{m:Ct}(nd:(keys m).Nodup){k:Kt}{c:Nat}(h:(k,c) ∈ m):look m k=some c:=by
 induction m with
 |nil=>cases h
 |cons x m ih =>
  have nd:(x.1 :: keys m).Nodup:=nd;rw [List.nodup_cons] at nd;rw [z7]
  rcases List.mem_cons.mp h with z | z
  ·subst z;rw [if_pos rfl]
  ·rw [if_neg fun e=>nd.1 (by rw [e];exact List.mem_map.mpr ⟨_,z,rfl⟩)];exact ih nd.2 z
theorem look_key{m:Ct}{k:Kt}:k ∈ keys m ↔ ∃ c,look m k=some c:=by
 constructor
 ·intro h
  induction m with
  |nil=>cases h
  |cons x m ih =>
   rw [z7]
   by_cases e:x.1=k
   ·rw [if_pos e];exact ⟨_,rfl⟩
   ·rw [if_neg e]
    rcases List.mem_cons.mp h with z | z
    ·exact absurd z.symm e
    ·exact ih z
 ·rintro ⟨c,h⟩;exact List.mem_map.mpr ⟨_,a3g h,rfl⟩
theorem a9Y(m:Ct)(k k':Kt)(v:Nat):look (m ++ [(k,v)]) k'=(look m k').or (if k=k' then some v else none):=by
 induction m with
 |nil=>rw [List.nil_append,z7];rfl
 |cons x m ih =>
  rw [List.cons_append,z7,z7]
  by_cases e:x.1=k'
  ·rw [if_pos e,if_pos e];rfl
  ·rw [if_neg e,if_neg e];exact ih
theorem any_key{m:Ct}{k:Kt}:(m.any fun x=>decide (x.1=k))=true ↔ k ∈ keys m:=by
 rw [List.any_eq_true]
 constructor
 ·rintro ⟨x,h,e⟩;exact List.mem_map.mpr ⟨x,h,of_decide_eq_true e⟩
 ·intro h;obtain ⟨x,h,e⟩:=List.mem_map.mp h;exact ⟨x,h,decide_eq_true e⟩
theorem a3i(k k':Kt)(v:Nat):∀ m:Ct,look (m.map fun x=>if x.1=k then (x.1,v) else x) k'=if k=k' then (look m k').map fun _=>v else look m k'
 |[]=>by split <;> rfl
 |x :: m=>by
  rw [List.map_cons,z7,z7,a3i k k' v m]
  by_cases e:x.1=k
  ·rw [if_pos e]
   by_cases e2:k=k'
   ·rw [if_pos (by exact e.trans e2),if_pos e2,if_pos (e.trans e2)];rfl
   ·rw [if_neg (fun z=>e2 (e.symm.trans z)),if_neg e2,if_neg e2,if_neg (fun z=>e2 (e.symm.trans z))]
  ·rw [if_neg e]
   by_cases e2:x.1=k'
   ·rw [if_pos e2,if_neg (fun z=>e (e2.trans z.symm)),if_pos e2]
   ·rw [if_neg e2,if_neg e2]
theorem F9(m:Ct)(k k':Kt)(v:Nat):look (A2 m k v) k'=if k=k' then some v else look m k':=by
 unfold A2
 by_cases c:(m.any fun x=>decide (x.1=k))=true
 ·rw [if_pos c,a3i]
  by_cases e:k=k'
  ·rw [if_pos e,if_pos e];obtain ⟨w,hw⟩:=look_key.mp (any_key.mp c);rw [<- e,hw];rfl
  ·rw [if_neg e,if_neg e]
 ·rw [if_neg c,a9Y]
  by_cases e:k=k'
  ·rw [if_pos e,if_pos e]
   have:look m k'=none:=by
    cases q:look m k' with
    |none=>rfl
    |some w=>exact absurd (any_key.mpr (look_key.mpr ⟨w,by rw [e];exact q⟩)) c
   rw [this];rfl
  ·rw [if_neg e,if_neg e];cases look m k' <;> rfl
theorem a9S(m:Ct)(k:Kt)(v:Nat):keys (A2 m k v)=if k ∈ keys m then keys m else keys m ++ [k]:=by
 unfold A2
 by_cases c:(m.any fun x=>decide (x.1=k))=true
 ·rw [if_pos c,if_pos (any_key.mp c)];unfold keys;rw [List.map_map]
  congr 1;funext x
  show (if x.1=k then (x.1,v) else x).1=x.1
  split <;> rfl
 ·rw [if_neg c,if_neg (fun z=>c (any_key.mpr z))];unfold keys;rw [List.map_append];rfl
theorem K8{α:Type}{l:List α}{a:α}(h:l.Nodup)(n:a ∉ l):(l ++ [a]).Nodup:=by
 rw [List.nodup_append];exact ⟨h,by simp,fun x hx y hy=>by rw [List.mem_singleton.mp hy];exact fun z=>n (z ▸ hx)⟩
structure TOk(V:Kt->Prop)(m:Ct):Prop where
 nd:(keys m).Nodup
 all:∀ k ∈ keys m,V k
theorem TOk.put{V:Kt->Prop}{m:Ct}{k:Kt}{v:Nat}(h:TOk V m)(hk:V k):TOk V (A2 m k v):=by
 have e:=a9S m k v
 by_cases c:k ∈ keys m
 ·rw [if_pos c] at e;exact ⟨by rw [e];exact h.nd,by rw [e];exact h.all⟩
 ·rw [if_neg c] at e;refine ⟨by rw [e];exact K8 h.nd c,fun k' hk'=>?_⟩;rw [e] at hk'
  rcases List.mem_append.mp hk' with z | z
  ·exact h.all _ z
  ·rw [List.mem_singleton.mp z];exact hk
theorem TOk.nil{V:Kt->Prop}:TOk V []:=⟨List.nodup_nil,fun _ h=>nomatch h⟩
def Met(m:Ct)(x:Kt×Nat):Prop:=∃ c,look m x.1=some c/\c <= x.2
def met(m:Ct)(x:Kt×Nat):Bool:=match look m x.1 with | some c=>decide (c <= x.2) | none=>false
theorem met_iff{m:Ct}{x:Kt×Nat}:met m x=true ↔ Met m x:=by
 unfold met Met
 cases look m x.1 with
 |none=>refine ⟨fun h=>?_,fun ⟨_,h,_⟩=>?_⟩ <;> cases h
 |some c=>exact ⟨fun h=>⟨c,rfl,of_decide_eq_true h⟩,fun ⟨c',h,h2⟩=>by cases h;exact decide_eq_true h2⟩
def Le(m m':Ct):Prop:=∀ k c,look m k=some c->∃ c',look m' k=some c'/\c' <= c
theorem Le.refl(m:Ct):Le m m:=fun _ c h=>⟨c,h,Nat.le_refl _⟩
theorem Le.trans{a b c:Ct}(h:Le a b)(h':Le b c):Le a c:=fun k x e=>let ⟨y,e1,l1⟩:=h k x e;let ⟨z,e2,l2⟩:=h' k y e1;⟨z,e2,Nat.le_trans l2 l1⟩
theorem a4X{m:Ct}{x:Kt×Nat}(h:¬ met m x=true){c:Nat}(e:look m x.1=some c):x.2 < c:=by
 rw [met_iff] at h;exact Nat.lt_of_not_le fun z=>h ⟨c,e,z⟩
theorem Le.put{m:Ct}{x:Kt×Nat}(h:¬ met m x=true):Le m (A2 m x.1 x.2):=fun k c e=>by
 rw [F9]
 by_cases z:x.1=k
 ·rw [if_pos z];exact ⟨x.2,rfl,Nat.le_of_lt (a4X h (z ▸ e))⟩
 ·rw [if_neg z];exact ⟨c,e,Nat.le_refl _⟩
theorem Le.met{m m':Ct}(l:Le m m'){x:Kt×Nat}(h:Met m x):Met m' x:=let ⟨c,e,h⟩:=h;let ⟨c',e',h'⟩:=l _ _ e;⟨c',e',Nat.le_trans h' h⟩
end CM
namespace CM
open PySem L2 DL
def K7(m:Nat):List Nat:=(List.range 6).filter fun d=>m.testBit d
theorem mem6{m e:Nat}:e ∈ K7 m ↔ e < 6/\m.testBit e=true:=by
 unfold K7;rw [List.mem_filter,List.mem_range]
theorem J4{m:Nat}(h:m < 64):k8 m=K7 m:=by
 unfold k8 K7;have hb:Builtin.Int.intBits (m:Int) <= 6:=a5D (n:=6) h
 have e:∀ n,n <= 6->(∀ e,n <= e->m.testBit e=false)->(List.range 6).filter (fun d=>m.testBit d)=(List.range n).filter (fun d=>m.testBit d):=by
  intro n hn hi;obtain ⟨j,hj⟩:∃ j,6=n + j:=⟨6 - n,by omega⟩
  rw [hj,List.range_add,List.filter_append]
  have:((List.range j).map (n + ·)).filter (fun d=>m.testBit d)=[]:=by
   rw [List.filter_eq_nil_iff];intro a ha;obtain ⟨x,_,rfl⟩:=List.mem_map.mp ha;rw [hi _ (Nat.le_add_right _ _)];exact Bool.false_ne_true
  rw [this,List.append_nil]
 exact (e _ hb fun e he=>a7n he).symm
theorem c2l(m:Nat):(K7 m).length <= 6:=by
 unfold K7
 have:=List.length_filter_le (fun d=>m.testBit d) (List.range 6)
 rwa [List.length_range] at this
def E1(E:Edge):List Nat:=match E.k with | .step t=>t | .call _ _ _ o=>o
def K4(C:d9)(k:Kt):Prop:=∃ f a p d F,k=[f,a,p,d]/\C[f]?=some F/\a < F.facts/\p < F.places/\d < F.facts
structure Up(m m':Ct):Prop where
 ex:∃ k c,look m k=some c/\(∀ k',k' ≠ k->look m' k'=look m k')/\∀ c',look m' k=some c'->c < c'
theorem Up.put{m:Ct}{k:Kt}{c v:Nat}(h:look m k=some c)(hv:c < v):Up m (A2 m k v) :=
 ⟨k,c,h,fun k' n=>by rw [F9,if_neg fun z=>n z.symm],fun c' e=>by rw [F9,if_pos rfl] at e;cases e;exact hv⟩
end CM
namespace CM
open PySem L2 DL
def a6H(m:Ct):Nat:=(m.map (·.2)).sum
def Dn(m m':Ct):Prop:=m.length < m'.length\/(m.length=m'.length/\a6H m' < a6H m)
theorem a5E{k:Kt}{v:Nat}:∀ {m:Ct} {c:Nat},(keys m).Nodup->look m k=some c->a6H (m.map fun x=>if x.1=k then (x.1,v) else x) + c=a6H m + v
 |[],c,_,h=>by cases h
 |x :: m,c,nd,h=>by
  have nd:(x.1 :: keys m).Nodup:=nd;rw [List.nodup_cons] at nd;rw [z7] at h;unfold a6H;rw [List.map_cons,List.map_cons,List.sum_cons,List.map_cons,List.sum_cons]
  by_cases e:x.1=k
  ·rw [if_pos e] at h;cases h;rw [if_pos e]
   have:(m.map fun x=>if x.1=k then (x.1,v) else x)=m:=by
    refine (List.map_congr_left fun y hy=>?_).trans (List.map_id m);rw [if_neg fun z=>nd.1 (by rw [e,<- z];exact List.mem_map.mpr ⟨y,hy,rfl⟩)];rfl
   rw [this];dsimp only;omega
  ·rw [if_neg e] at h ⊢;have ih:=a5E (v:=v) nd.2 h;unfold a6H at ih;omega
theorem Dn.put{m:Ct}{x:Kt×Nat}(nd:(keys m).Nodup)(h:¬ met m x=true):Dn m (A2 m x.1 x.2):=by
 unfold A2
 by_cases c:(m.any fun y=>decide (y.1=x.1))=true
 ·rw [if_pos c];obtain ⟨w,hw⟩:=look_key.mp (any_key.mp c);have s:=a5E (v:=x.2) nd hw;have l:=a4X h hw;exact .inr ⟨by rw [List.length_map],by omega⟩
 ·rw [if_neg c];exact .inl (by rw [List.length_append];exact Nat.lt_succ_self _)
end CM
namespace CM
open PySem L2 DL
theorem b1M(m:Ct):((tbD m).map fun kv=>K0 kv.1)=m.map fun x=>tkD x.1:=by
 unfold tbD;rw [List.map_map];exact List.map_congr_left fun x _=>R6 x.1
theorem a3F{δ:Sl}{h:Hh}{j i:Nat}{m:Ct}(hδ:δ[j]?=some (some (.ref i)))(e:h[i]?=some (.dT none (tbD m)))(Q:Src->Hh->Prop)(k:∀ o,Q ⟨m.map fun x=>tkD x.1,[(i,.dT (some o) (tbD m))]⟩ (h.set i (.dT (some o) (tbD m)))):a0m (b6 j) δ h Q:=by
 unfold a0m b6;rw [hδ];dsimp only;rw [e];dsimp only;rw [b1M];exact k
def fz(i:Nat)(o:Obj)(m:Ct)(h:Hh):Hh:=h.set i (.dT (some o) (tbD m))
theorem a2p{i:Nat}{o:Obj}{m:Ct}{h:Hh}{x:O}(e:h[i]?=some x):(fz i o m h)[i]?=some (.dT (some o) (tbD m)):=List.getElem?_set_self (List.getElem?_eq_some_iff.mp e).1
theorem b4M{i k:Nat}{o:Obj}{m:Ct}{h:Hh}(n:i ≠ k):(fz i o m h)[k]?=h[k]?:=List.getElem?_set_ne n
theorem b7d{i k:Nat}{o:Obj}{m:Ct}{h:Hh}{x:O}(n:i ≠ k):(fz i o m h).set k x=fz i o m (h.set k x):=List.set_comm _ _ n
theorem a5l{i:Nat}{o:Obj}{m:Ct}{h h0:Hh}{kvs0:List (List Key×D)}{Q:Hh->Prop}(e0:h0[i]?=some (.dT none kvs0))(e:h[i]?=some (.dT none (tbD m)))(q:Q h):thaw h0 (fz i o m h) Q :=
 ⟨i,o,tbD m,kvs0,e0,a2p e,by unfold fz;rw [List.set_set,b6d e];exact q⟩
theorem a4Q{s:DI}{t:DG}{b:DS}{E:E8}{δ:Sl}{h:Hh}{i:Nat}{m:Ct}(g:Kt×Nat->D)
  (hs:∀ Q:Src->Hh->Prop,(∀ o,Q ⟨m.map g,[(i,.dT (some o) (tbD m))]⟩ (h.set i (.dT (some o) (tbD m))))->s δ h Q)
  (P:Ct->Sl->Hh->Prop) (h0:P [] δ h) (ok:∀ p δ h',P p δ h'->h'[i]?=some (.dT none (tbD m)))
  (step:∀ (p:Ct) (x:Kt×Nat) (r:Ct) (δ':Sl) (h':Hh) (o:Obj) (N X1:Sl->Hh->Prop) (R:DK) (X2:DX),m=p ++ x :: r->P p δ' h'->(∀ δ'' h'',P (p ++ [x]) δ'' h''->N δ'' (fz i o m h''))->(∀ d h'',h''[i]?=some (.dT none (tbD m))->E.rt d h''->R d (fz i o m h'')) ->
   t (g x) δ' (fz i o m h') fun δ2 h2=>b ⟨N,R,X1,N,X2⟩ δ2 h2)
  (done:∀ δ' h',P m δ' h'->E.nx δ' h'):a1m s t b E δ h:=by
 have e0:=ok _ _ _ h0;refine hs _ fun o=>?_;refine m8 (g:=g) (fun p δ' h'=>∃ h'',h'=fz i o m h''/\P p δ' h'') ⟨h,rfl,h0⟩ ?_ ?_ ?_
 ·rintro p δ' h' ⟨h'',rfl,q⟩ z hz
  rw [List.mem_singleton.mp hz];exact a2p (ok _ _ _ q)
 ·rintro p x r δ' h' N e ⟨h'',rfl,q⟩ hN
  exact step p x r δ' h'' o N _ _ _ e q (fun δ3 h3 q3=>hN _ _ ⟨h3,rfl,q3⟩) fun d h3 e3 q3=>a5l e0 e3 q3
 ·rintro δ' h' ⟨h'',rfl,q⟩
  exact a5l e0 (ok _ _ _ q) (done _ _ q)
theorem a0r{s:DI}{t:DG}{b:DS}{E:E8}{δ:Sl}{h:Hh}(k:∀ t' b',t'=t->b'=b->a1m s t' b' E δ h):a1m s t b E δ h:=k _ _ rfl rfl
def Z(m:Ct)(k:Kt):Prop:=look m k=some 0
theorem Z.put{m:Ct}{k:Kt}(h:Z m k)(k':Kt):Z (A2 m k' 0) k:=by
 unfold Z;rw [F9];split
 ·rfl
 ·exact h
theorem b6O{h:Hh}{i:Nat}{o x:O}{ob:Obj}{m:Ct}(e:h[i]?=some x):(fz i ob m (h ++ [o]))[h.length]?=some o:=by
 rw [b4M (Nat.ne_of_lt (List.getElem?_eq_some_iff.mp e).1),u9]
theorem b6S{h:Hh}{i:Nat}{o u x:O}{ob:Obj}{m:Ct}(e:h[i]?=some x):(fz i ob m (h ++ [o])).set h.length u=fz i ob m (h ++ [u]):=by
 rw [b7d (Nat.ne_of_lt (List.getElem?_eq_some_iff.mp e).1),A9]
theorem U1{h g:Hh}{i:Nat}{o:O}(e:h[i]?=some o):(h ++ g)[i]?=some o:=Pre.app _ _ _ _ e
theorem w9{s:DI}{t:DG}{b:DS}{E:E8}{δ:Sl}{h:Hh}(k:∀ t' b',t'=t->b'=b->E2 s t' b' E δ h):E2 s t b E δ h:=k _ _ rfl rfl
theorem B0{i:Nat}{d:D}{δ:Sl}{h:Hh}{Q:Sl->Hh->Prop}(k:Q (δ.set i (some d)) h):c9 i d δ h Q:=k
theorem c2i{a b:Nat}{x y:D}{δ:Sl}{h:Hh}{K:Sl->Hh->Prop}(k:K ((δ.set a (some x)).set b (some y)) h):a2f 2 (u8 (c9 a) (u8 (c9 b) M6)) (.tup [x,y]) δ h K:=⟨rfl,k⟩
end CM
namespace CM
open PySem L2 DL
structure Ky where
 f:Nat
 a:Nat
 p:Nat
 d:Nat
def Ky.t(k:Ky):Kt:=[k.f,k.a,k.p,k.d]
theorem Ky.inj{k l:Ky}(h:k.t=l.t):k=l:=by
 obtain ⟨a,b,c,d⟩:=k;obtain ⟨a',b',c',d'⟩:=l;have h:[a,b,c,d]=[a',b',c',d']:=h
 injection h with h1 h
 injection h with h2 h
 injection h with h3 h
 injection h with h4 _
 rw [h1,h2,h3,h4]
def Ky.w(k:Ky)(c:Nat):Clm:=.within k.f k.a k.p k.d c
theorem Ky.w_inj{k l:Ky}{c c':Nat}(h:k.w c=l.w c'):k=l/\c=c':=by
 obtain ⟨a,b,x,d⟩:=k;obtain ⟨a',b',x',d'⟩:=l;have h:Clm.within a b x d c=Clm.within a' b' x' d' c':=h
 injection h with h1 h2 h3 h4 h5
 rw [h1,h2,h3,h4];exact ⟨rfl,h5⟩
abbrev Of:=Nat×Ky×Row
structure a0j where
 cost:Nat
 key:Ky
 k:Nat
 n:Nat
 E:Edge
structure En where
 cost:Nat
 d:Nat
 k:Nat
structure Se where
 T:List Of
 pd:List Nat
 L:Ct
 rs:List Row
 I:List (Ky×Nat)
 ca:Nat->Nat->List a0j
 en:Nat->Nat->List En
def x0(I:List (Ky×Nat)):List Clm:=I.map fun x=>x.1.w x.2
def offer(s:Se)(x:Of):Se:=if met s.L (x.2.1.t,x.1)=true then s else { s with T:=s.T ++ [x],pd:=s.pd ++ [s.T.length],L:=A2 s.L x.2.1.t x.1 }
def offs(s:Se)(l:List Of):Se:=l.foldl offer s
theorem B6{cs:List Clm}{k:Int}{c:Clm}(x:List Clm)(h:i8 cs k=some c):i8 (cs ++ x) k=some c:=by
 unfold i8 at h ⊢
 split at h
 ·rename_i z;rw [if_pos z];rw [List.getElem?_append_left (List.getElem?_eq_some_iff.mp h).1];exact h
 ·cases h
theorem a4j{C:d9}{st:Nat}{cs:List Clm}{r:Row}{c:Clm}(x:List Clm)(h:f9 C st cs r=some c):f9 C st (cs ++ x) r=some c:=by
 cases r with
 |begin f d=>exact h
 |start d=>exact h
 |mv w k n e =>
  cases w with
  |inn =>
   dsimp only [f9] at h ⊢
   cases q:i8 cs k with
   |none=>rw [q] at h;cases h
   |some y=>rw [B6 x q];rw [q] at h;exact h
  |step =>
   dsimp only [f9] at h ⊢
   cases q:i8 cs k with
   |none=>rw [q] at h;cases h
   |some y=>rw [B6 x q];rw [q] at h;exact h
  |over =>
   dsimp only [f9] at h ⊢
   cases q:i8 cs k with
   |none=>rw [q] at h;cases h
   |some y=>rw [B6 x q];rw [q] at h;exact h
 |short k n j e =>
  dsimp only [f9] at h ⊢
  cases q:i8 cs k with
  |none=>rw [q] at h;cases h
  |some y =>
   rw [B6 x q];rw [q] at h
   cases q':i8 cs j with
   |none=>rw [q'] at h;cases y <;> cases h
   |some z=>rw [B6 x q'];rw [q'] at h;exact h
 |along k j =>
  dsimp only [f9] at h ⊢
  cases q:i8 cs k with
  |none=>rw [q] at h;cases h
  |some y =>
   rw [B6 x q];rw [q] at h
   cases q':i8 cs j with
   |none=>rw [q'] at h;cases y <;> cases h
   |some z=>rw [B6 x q'];rw [q'] at h;exact h
theorem Y1{C:d9}{st:Nat}{r:Row}{c:Clm}:∀ {rs:List Row} {cs ds:List Clm},p9 C st rs cs=some ds->f9 C st ds r=some c->p9 C st (rs ++ [r]) cs=some (ds ++ [c])
 |[],cs,ds,h,k=>by
  cases h;show ((f9 C st cs r).bind fun c=>some (cs ++ [c]))=_;rw [k];rfl
 |r' :: rs,cs,ds,h,k=>by
  have h:((f9 C st cs r').bind fun c=>p9 C st rs (cs ++ [c]))=some ds:=h;show ((f9 C st cs r').bind fun c=>p9 C st (rs ++ [r]) (cs ++ [c]))=_
  cases q:f9 C st cs r' with
  |none=>rw [q] at h;cases h
  |some c'=>rw [q] at h;exact Y1 (rs:=rs) h k
theorem J8{C:d9}(wf:WF C){st:Nat}:∀ {rs:List Row} {cs ds:List Clm},(∀ c ∈ cs,Z0 C c)->p9 C st rs cs=some ds->∀ c ∈ ds,Z0 C c
 |[],cs,ds,ok,h=>by cases h;exact ok
 |r :: rs,cs,ds,ok,h=>by
  have h:((f9 C st cs r).bind fun c=>p9 C st rs (cs ++ [c]))=some ds:=h
  cases q:f9 C st cs r with
  |none=>rw [q] at h;cases h
  |some c' =>
   rw [q] at h
   exact J8 wf (rs:=rs) (fun c hc=>by
    rcases List.mem_append.mp hc with z | z
    ·exact ok c z
    ·rw [List.mem_singleton.mp z];exact S8 wf ok q) h
structure Mid(C:d9)(s:Se):Prop where
 pap:p9 C 0 s.rs []=some (x0 s.I)
 nd:(s.I.map (·.1)).Nodup
 ti:∀ x ∈ s.I,look s.L x.1.t=some x.2
 tl:∀ k c,look s.L k=some c->∃ ky,k=ky.t/\((ky,c) ∈ s.I\/∃ n ∈ s.pd,∃ r,s.T[n]?=some (c,ky,r))
 tt:∀ (n:Nat) (x:Of),s.T[n]?=some x->Met s.L (x.2.1.t,x.1)
 td:∀ (n m:Nat) (x y:Of),s.T[n]?=some x->s.T[m]?=some y->x.2.1=y.2.1->x.1=y.1->n=m
 vl:∀ (n:Nat) (x:Of),s.T[n]?=some x->f9 C 0 (x0 s.I) x.2.2=some (x.2.1.w x.1)
 cu:∀ n ∈ s.pd,∀ x:Of,s.T[n]?=some x->∀ y ∈ s.I,y.2 <= x.1
 np:∀ n ∈ s.pd,∀ x:Of,s.T[n]?=some x->(x.2.1,x.1) ∉ s.I
 pl:∀ n ∈ s.pd,n < s.T.length
 pn:s.pd.Nodup
 lk:TOk (K4 C) s.L
def E5(C:d9)(s:Se)(x:Of):Prop:=f9 C 0 (x0 s.I) x.2.2=some (x.2.1.w x.1)/\∀ y ∈ s.I,y.2 <= x.1
structure Still(s s':Se):Prop where
 rs:s'.rs=s.rs
 I:s'.I=s.I
 ca:s'.ca=s.ca
 en:s'.en=s.en
 le:Le s.L s'.L
theorem Still.refl(s:Se):Still s s:=⟨rfl,rfl,rfl,rfl,Le.refl _⟩
theorem Still.trans{a b c:Se}(h:Still a b)(g:Still b c):Still a c:=⟨g.rs.trans h.rs,g.I.trans h.I,g.ca.trans h.ca,g.en.trans h.en,h.le.trans g.le⟩
theorem Mid.k4{C:d9}{s:Se}(wf:WF C)(m:Mid C s){x:Of}(o:f9 C 0 (x0 s.I) x.2.2=some (x.2.1.w x.1)):K4 C x.2.1.t:=by
 obtain ⟨F,h1,h2,h3,h4⟩:=S8 wf (J8 wf (cs:=[]) (fun c h=>nomatch h) m.pap) o;exact ⟨_,_,_,_,F,rfl,h1,h2,h3,h4⟩
theorem D2{α:Type}{l:List α}{x y:α}{n:Nat}(h:(l ++ [x])[n]?=some y):l[n]?=some y\/(n=l.length/\y=x):=by
 rcases Nat.lt_or_ge n l.length with z | z
 ·rw [List.getElem?_append_left z] at h;exact .inl h
 ·rw [List.getElem?_append_right z] at h
  have:n - l.length=0:=by
   rcases Nat.eq_zero_or_pos (n - l.length) with e | e
   ·exact e
   ·rw [List.getElem?_eq_none (by simp;omega)] at h;cases h
  rw [this] at h;exact .inr ⟨by omega,by cases h;rfl⟩
theorem R0{α:Type}{l:List α}{x y:α}{n:Nat}(h:l[n]?=some y):(l ++ [x])[n]?=some y:=by
 rw [List.getElem?_append_left (List.getElem?_eq_some_iff.mp h).1];exact h
theorem B3{α:Type}(l:List α)(x:α):(l ++ [x])[l.length]?=some x:=by
 rw [List.getElem?_append_right (Nat.le_refl _),Nat.sub_self];rfl
theorem Mid.offer{C:d9}{s:Se}(wf:WF C)(m:Mid C s){x:Of}(o:E5 C s x):Mid C (offer s x)/\Still s (CM.offer s x)/\Met (CM.offer s x).L (x.2.1.t,x.1):=by
 unfold CM.offer
 by_cases c:met s.L (x.2.1.t,x.1)=true
 ·rw [if_pos c];exact ⟨m,Still.refl _,met_iff.mp c⟩
 ·rw [if_neg c];have le:Le s.L (A2 s.L x.2.1.t x.1):=Le.put (x:=(x.2.1.t,x.1)) c;have mt:Met (A2 s.L x.2.1.t x.1) (x.2.1.t,x.1):=⟨x.1,by rw [F9,if_pos rfl],Nat.le_refl _⟩
  have nm:¬ Met s.L (x.2.1.t,x.1):=fun z=>c (met_iff.mpr z);refine ⟨⟨m.pap,m.nd,fun y hy=>?_,fun k c' h=>?_,fun n y h=>?_,fun n k y z hn hk e1 e2=>?_,fun n y h=>?_,fun n hn y h w hw=>?_,fun n hn y h=>?_,fun n hn=>?_,?_,m.lk.put (m.k4 wf o.1)⟩,⟨rfl,rfl,rfl,rfl,le⟩,mt⟩
  ·show look (A2 s.L x.2.1.t x.1) y.1.t=_;rw [F9]
   by_cases z:x.2.1.t=y.1.t
   ·exfalso
    exact nm ⟨y.2,by show look s.L x.2.1.t=_;rw [z];exact m.ti y hy,o.2 y hy⟩
   ·rw [if_neg z];exact m.ti y hy
  ·have h:look (A2 s.L x.2.1.t x.1) k=some c':=h;rw [F9] at h
   by_cases z:x.2.1.t=k
   ·rw [if_pos z] at h;cases h;exact ⟨x.2.1,z.symm,.inr ⟨s.T.length,List.mem_append_right _ (List.mem_singleton.mpr rfl),x.2.2,B3 _ _⟩⟩
   ·rw [if_neg z] at h;obtain ⟨ky,e,w⟩:=m.tl k c' h;refine ⟨ky,e,w.imp id fun ⟨n,h1,r,h2⟩=>⟨n,List.mem_append_left _ h1,r,R0 h2⟩⟩
  ·rcases D2 h with z | ⟨_,z⟩
   ·exact le.met (m.tt n y z)
   ·rw [z];exact mt
  ·rcases D2 hn with z1 | ⟨z1,z1'⟩ <;> rcases D2 hk with z2 | ⟨z2,z2'⟩
   ·exact m.td n k y z z1 z2 e1 e2
   ·exfalso;have:=m.tt n y z1;rw [e1,e2,z2'] at this;exact nm this
   ·exfalso;have:=m.tt k z z2;rw [<- e1,<- e2,z1'] at this;exact nm this
   ·rw [z1,z2]
  ·rcases D2 h with z | ⟨_,z⟩
   ·exact m.vl n y z
   ·rw [z];exact o.1
  ·rcases List.mem_append.mp hn with q | q
   ·rcases D2 h with z | ⟨z,_⟩
    ·exact m.cu n q y z w hw
    ·exfalso;have:=m.pl n q;omega
   ·rw [List.mem_singleton.mp q] at h;have h:(s.T ++ [x])[s.T.length]?=some y:=h;rw [B3] at h;cases h;exact o.2 w hw
  ·rcases List.mem_append.mp hn with q | q
   ·rcases D2 h with z | ⟨z,_⟩
    ·exact m.np n q y z
    ·exfalso;have:=m.pl n q;omega
   ·rw [List.mem_singleton.mp q] at h;have h:(s.T ++ [x])[s.T.length]?=some y:=h;rw [B3] at h;cases h;intro w;exact nm ⟨x.1,m.ti _ w,Nat.le_refl _⟩
  ·show n < (s.T ++ [x]).length;rw [List.length_append,List.length_singleton]
   rcases List.mem_append.mp hn with q | q
   ·have:=m.pl n q;omega
   ·rw [List.mem_singleton.mp q];omega
  ·exact K8 m.pn fun z=>Nat.lt_irrefl _ (m.pl _ z)
theorem Mid.offs{C:d9}(wf:WF C):∀ {l:List Of} {s:Se},Mid C s->(∀ x ∈ l,E5 C s x)->Mid C (offs s l)/\Still s (CM.offs s l)/\∀ x ∈ l,Met (CM.offs s l).L (x.2.1.t,x.1)
 |[],s,m,_=>⟨m,Still.refl _,fun _ h=>nomatch h⟩
 |x :: l,s,m,o=>by
  obtain ⟨m1,s1,t1⟩:=m.offer wf (o x List.mem_cons_self)
  obtain ⟨m2,s2,t2⟩:=Mid.offs wf (l:=l) m1 fun y hy=>by
   have:=o y (List.mem_cons_of_mem _ hy)
   unfold E5 at this ⊢;rw [s1.I];exact this
  refine ⟨m2,s1.trans s2,fun y hy=>?_⟩
  rcases List.mem_cons.mp hy with z | z
  ·rw [z];exact s2.le.met t1
  ·exact t2 y z
def y8(s:Se)(n:Nat):Se:={ s with pd:=s.pd.erase n }
theorem Mid.stale{C:d9}{s:Se}(m:Mid C s){n:Nat}{x:Of}(e:s.T[n]?=some x)(ne:look s.L x.2.1.t ≠ some x.1):Mid C (y8 s n):=by
 have sub:∀ k,k ∈ s.pd.erase n->k ∈ s.pd:=fun k h=>List.mem_of_mem_erase h;refine ⟨m.pap,m.nd,m.ti,fun k c h=>?_,m.tt,m.td,m.vl,fun k hk=>m.cu k (sub k hk),fun k hk=>m.np k (sub k hk),fun k hk=>m.pl k (sub k hk),m.pn.erase _,m.lk⟩;obtain ⟨ky,e1,w⟩:=m.tl k c h;refine ⟨ky,e1,w.imp id fun ⟨j,h1,r,h2⟩=>⟨j,?_,r,h2⟩⟩;refine (List.Nodup.mem_erase_iff m.pn).mpr ⟨fun z=>?_,h1⟩;subst z;rw [e] at h2;cases h2;subst e1;exact ne h
def C6(s:Se)(n:Nat)(x:Of):Se:={ s with pd:=s.pd.erase n,rs:=s.rs ++ [x.2.2],I:=s.I ++ [(x.2.1,x.1)] }
theorem Mid.new{C:d9}{s:Se}(m:Mid C s){n:Nat}{x:Of}(hn:n ∈ s.pd)(e:s.T[n]?=some x)(el:look s.L x.2.1.t=some x.1):x.2.1 ∉ s.I.map (·.1):=fun z=>by
 obtain ⟨y,hy,ey⟩:=List.mem_map.mp z
 have:=m.ti y hy
 rw [ey,el] at this;exact m.np n hn x e (by rw [<- ey,Option.some.inj this];exact hy)
theorem Mid.settle{C:d9}{s:Se}(m:Mid C s){n:Nat}{x:Of}(hn:n ∈ s.pd)(e:s.T[n]?=some x)(el:look s.L x.2.1.t=some x.1)(mn:∀ k ∈ s.pd,∀ y:Of,s.T[k]?=some y->x.1 <= y.1):Mid C (C6 s n x)/\∀ y ∈ (C6 s n x).I,y.2 <= x.1:=by
 have sub:∀ k,k ∈ s.pd.erase n->k ∈ s.pd:=fun k h=>List.mem_of_mem_erase h;have cl:x0 (s.I ++ [(x.2.1,x.1)])=x0 s.I ++ [x.2.1.w x.1]:=by unfold x0;rw [List.map_append];rfl
 refine ⟨⟨?_,?_,fun y hy=>?_,fun k c h=>?_,m.tt,m.td,fun k y h=>?_,fun k hk y h w hw=>?_,fun k hk y h w=>?_,fun k hk=>m.pl k (sub k hk),m.pn.erase _,m.lk⟩,fun y hy=>?_⟩
 ·show p9 C 0 (s.rs ++ [x.2.2]) []=some (x0 (s.I ++ [(x.2.1,x.1)]));rw [cl];exact Y1 m.pap (m.vl n x e)
 ·show ((s.I ++ [(x.2.1,x.1)]).map (·.1)).Nodup;rw [List.map_append];exact K8 m.nd (m.new hn e el)
 ·rcases List.mem_append.mp hy with z | z
  ·exact m.ti y z
  ·rw [List.mem_singleton.mp z];exact el
 ·obtain ⟨ky,e1,w⟩:=m.tl k c h;refine ⟨ky,e1,?_⟩
  rcases w with w | ⟨j,h1,r,h2⟩
  ·exact .inl (List.mem_append_left _ w)
  ·by_cases z:j=n
   ·subst z;rw [e] at h2;cases h2;exact .inl (List.mem_append_right _ (List.mem_singleton.mpr rfl))
   ·exact .inr ⟨j,(List.Nodup.mem_erase_iff m.pn).mpr ⟨z,h1⟩,r,h2⟩
 ·show f9 C 0 (x0 (s.I ++ [(x.2.1,x.1)])) y.2.2=_;rw [cl];exact a4j _ (m.vl k y h)
 ·rcases List.mem_append.mp hw with z | z
  ·exact m.cu k (sub k hk) y h w z
  ·rw [List.mem_singleton.mp z];exact mn k (sub k hk) y h
 ·rcases List.mem_append.mp w with z | z
  ·exact m.np k (sub k hk) y h z
  ·have z:=List.mem_singleton.mp z
   injection z with z1 z2
   have:=m.td k n y x h e z1 z2
   subst this;exact ((List.Nodup.mem_erase_iff m.pn).mp hk).1 rfl
 ·rcases List.mem_append.mp hy with z | z
  ·exact m.cu n hn x e y z
  ·rw [List.mem_singleton.mp z];exact Nat.le_refl _
end CM
namespace CM
open PySem L2 DL
def O5(F:Fn)(p:Nat):List (Edge×Nat):=F.edges.zipIdx.filter fun x=>decide (x.1.p=p)
theorem mem_fromE{F:Fn}{p:Nat}{E:Edge}{n:Nat}:(E,n) ∈ O5 F p ↔ F.edges[n]?=some E/\E.p=p:=by
 unfold O5;rw [List.mem_filter,decide_eq_true_iff,List.mem_zipIdx_iff_getElem?]
theorem a1o(F:Fn)(p:Nat):(O5 F p).length <= F.edges.length:=by
 have:=List.length_filter_le (fun x:Edge×Nat=>decide (x.1.p=p)) F.edges.zipIdx
 rwa [List.length_zipIdx] at this
def a0v(E:Edge):List Nat:=match E.k with | .step _=>[] | .call _ _ t _=>t
def cbL(c:a0j)(e:En):List Of:=(k8 ((a0v c.E).getD e.d 0)).map fun x=>(c.cost + e.cost,⟨c.key.f,c.key.a,c.E.q,x⟩,.short c.k c.n e.k x)
def gpL(cost:Nat)(ky:Ky)(k n:Nat)(E:Edge):List Of:=(k8 ((E1 E).getD ky.d 0)).map fun e=>(cost + E.cost,⟨ky.f,ky.a,E.q,e⟩,.mv (if E.isStep=true then .step else .over) k n e)
def D9{α:Type}(f:Nat->Nat->List α)(g b:Nat)(v:List α):Nat->Nat->List α:=fun g' b'=>if g'=g/\b'=b then v else f g' b'
theorem C4{α:Type}{f:Nat->Nat->List α}{g b:Nat}{v:List α}:D9 f g b v g b=v:=if_pos ⟨rfl,rfl⟩
theorem L1{α:Type}{f:Nat->Nat->List α}{g b g' b':Nat}{v:List α}(h:¬ (g'=g/\b'=b)):D9 f g b v g' b'=f g' b':=if_neg h
def cte(s:Se)(cost:Nat)(ky:Ky)(k:Nat):Se:=offs { s with en:=D9 s.en ky.f ky.a (s.en ky.f ky.a ++ [⟨cost,ky.d,k⟩]) } ((s.ca ky.f ky.a).flatMap fun c=>cbL c ⟨cost,ky.d,k⟩)
def gi1(g:Nat)(c:a0j)(s:Se)(b:Nat):Se:=offs { s with ca:=D9 s.ca g b (s.ca g b ++ [c]) } ((s.en g b).flatMap (cbL c))
def a3f(E:Edge):Nat×List Nat:=match E.k with | .step _=>(0,[]) | .call g i _ _=>(g,i)
def gin(s:Se)(cost:Nat)(ky:Ky)(k n:Nat)(E:Edge):Se:=(k8 ((a3f E).2.getD ky.d 0)).foldl (gi1 (a3f E).1 ⟨cost + E.cost,ky,k,n,E⟩) s
def G5(cost:Nat)(ky:Ky)(k:Nat)(s:Se)(x:Edge×Nat):Se:=if x.1.isStep=true then offs s (gpL cost ky k x.2 x.1) else gin (offs s (gpL cost ky k x.2 x.1)) cost ky k x.2 x.1
def K3(F:Fn)(s:Se)(cost:Nat)(ky:Ky)(k:Nat):Se:=if ky.p + 1=F.places then cte s cost ky k else s
def K6(F:Fn)(s:Se)(n:Nat)(x:Of):Se:=(O5 F x.2.1.p).foldl (G5 x.1 x.2.1 s.I.length) (K3 F (C6 s n x) x.1 x.2.1 s.I.length)
theorem a0s(s:Se)(l r:List Of):offs s (l ++ r)=offs (offs s l) r:=List.foldl_append
def CaOf(C:d9)(I:List (Ky×Nat))(g b:Nat)(x:a0j):Prop:=∃ ky c k n F E i t o,I[k]?=some (ky,c)/\C[ky.f]?=some F/\F.edges[n]?=some E/\E.p=ky.p/\E.k = .call g i t o/\b ∈ k8 (i.getD ky.d 0)/\x=⟨c + E.cost,ky,k,n,E⟩
def EnOf(C:d9)(I:List (Ky×Nat))(f a:Nat)(y:En):Prop:=∃ ky c k F,I[k]?=some (ky,c)/\ky.f=f/\ky.a=a/\C[f]?=some F/\ky.p + 1=F.places/\y=⟨c,ky.d,k⟩
structure Rec(C:d9)(s:Se):Prop where
 ca:∀ g b x,x ∈ s.ca g b ↔ CaOf C s.I g b x
 en:∀ f a y,y ∈ s.en f a ↔ EnOf C s.I f a y
 cl:∀ g b,(s.ca g b).length <= 600 * s.I.length
 el:∀ f a,(s.en f a).length <= s.I.length
theorem a0p{t:List Nat}{d e:Nat}(h:e ∈ k8 (t.getD d 0)):br t d (e:Int)=true:=by
 unfold br;rw [decide_eq_true (Int.natCast_nonneg e),Bool.true_and,Int.toNat_natCast];exact mem_facts.mp h
theorem a0H{I:List (Ky×Nat)}{k:Nat}{ky:Ky}{c:Nat}(h:I[k]?=some (ky,c)):i8 (x0 I) (k:Int)=some (ky.w c):=by
 unfold i8 x0;rw [if_pos (Int.natCast_nonneg k),Int.toNat_natCast,List.getElem?_map,h];rfl
theorem a4K{C:d9}{f n:Nat}{F:Fn}{E:Edge}(hF:C[f]?=some F)(hE:F.edges[n]?=some E):F1 C f (n:Int)=some E:=by
 unfold F1;rw [if_pos (Int.natCast_nonneg n),hF,Int.toNat_natCast];exact hE
theorem a4B{C:d9}{I:List (Ky×Nat)}{g b:Nat}{x:a0j}{y:En}(hx:CaOf C I g b x)(hy:EnOf C I g b y){z:Of}(hz:z ∈ cbL x y):f9 C 0 (x0 I) z.2.2=some (z.2.1.w z.1):=by
 obtain ⟨ky,c,k,n,F,E,i,t,o,e1,e2,e3,e4,e5,e6,rfl⟩:=hx;obtain ⟨kz,c',j,G,f1,f2,f3,f4,f5,rfl⟩:=hy;unfold cbL at hz;obtain ⟨e,he,rfl⟩:=List.mem_map.mp hz;have bt:a0v E=t:=by unfold a0v;rw [e5]
 rw [bt] at he
 have tk:n4 C ky.f ky.p ky.d .inn (n:Int) (b:Int)=some E:=by
  unfold n4;rw [a4K e2 e3];have st:E.isStep=false:=by unfold Edge.isStep;rw [e5]
  have tb:E.tab .inn=i:=by unfold Edge.tab;rw [e5]
  show (if (E.isStep == (Mv.inn == .step))=true/\E.p=ky.p/\br (E.tab .inn) ky.d (b:Int)=true then some E else none)=some E;rw [st,tb,if_pos ⟨rfl,e4,a0p e6⟩]
 show f9 C 0 (x0 I) (.short k n j e)=some (.within ky.f ky.a E.q e (c + E.cost + c'));dsimp only [f9];rw [a0H e1,a0H f1];show ((n4 C ky.f ky.p ky.d .inn (n:Int) (kz.a:Int)).bind _)=_;rw [f3,tk];show (match E.k with | .call g' _ bk _=>(C[g']?).bind fun G=>if g'=kz.f/\kz.p + 1=G.places/\br bk kz.d (e:Int)=true then some (Clm.within ky.f ky.a E.q (e:Int).toNat (c + E.cost + c')) else none | _=>none)=_;rw [e5];show ((C[g]?).bind _)=_;rw [f4];show (if g=kz.f/\kz.p + 1=G.places/\br t kz.d (e:Int)=true then some (Clm.within ky.f ky.a E.q (e:Int).toNat (c + E.cost + c')) else none)=_;rw [if_pos ⟨f2.symm,f5,a0p he⟩,Int.toNat_natCast]
theorem b5d{C:d9}{I:List (Ky×Nat)}{ky:Ky}{c k n:Nat}{F:Fn}{E:Edge}(e1:I[k]?=some (ky,c))(e2:C[ky.f]?=some F)(e3:F.edges[n]?=some E)(e4:E.p=ky.p){z:Of}(hz:z ∈ gpL c ky k n E):f9 C 0 (x0 I) z.2.2=some (z.2.1.w z.1):=by
 unfold gpL at hz;obtain ⟨e,he,rfl⟩:=List.mem_map.mp hz
 have key:∀ w:Mv,w ≠ .inn->(E.isStep == (w == .step))=true->E.tab w=E1 E->f9 C 0 (x0 I) (.mv w k n e)=some (.within ky.f ky.a E.q e (c + E.cost)):=by
  intro w hw hs ht
  have tk:n4 C ky.f ky.p ky.d w (n:Int) (e:Int)=some E:=by
   unfold n4;rw [a4K e2 e3];show (if (E.isStep == (w == .step))=true/\E.p=ky.p/\br (E.tab w) ky.d (e:Int)=true then some E else none)=some E;rw [ht,if_pos ⟨hs,e4,a0p he⟩]
  have fin:(match i8 (x0 I) (k:Int) with | some (.within f a p d c)=>(n4 C f p d w (n:Int) (e:Int)).map fun E=>Clm.within f a E.q (e:Int).toNat (c + E.cost) | _=>none)=some (.within ky.f ky.a E.q e (c + E.cost)):=by
   rw [a0H e1];show (n4 C ky.f ky.p ky.d w (n:Int) (e:Int)).map _=_;rw [tk];show some (Clm.within ky.f ky.a E.q (e:Int).toNat (c + E.cost))=_;rw [Int.toNat_natCast]
  cases w with
  |inn=>exact absurd rfl hw
  |step=>exact fin
  |over=>exact fin
 show f9 C 0 (x0 I) (.mv (if E.isStep=true then .step else .over) k n e)=some (.within ky.f ky.a E.q e (c + E.cost));obtain ⟨p,q,w,kd⟩:=E
 cases kd with
 |step t=>exact key .step (by decide) rfl rfl
 |call g i b o=>exact key .over (by decide) rfl rfl
structure Full(C:d9)(s:Se):Prop where
 mid:Mid C s
 rc:Rec C s
 ov:∀ (ky:Ky) (c:Nat) (F:Fn) (E:Edge) (n:Nat),(ky,c) ∈ s.I->C[ky.f]?=some F->F.edges[n]?=some E->E.p=ky.p->∀ e ∈ k8 ((E1 E).getD ky.d 0),Met s.L ([ky.f,ky.a,E.q,e],c + E.cost)
 sh:∀ g b x y,CaOf C s.I g b x->EnOf C s.I g b y->∀ z ∈ cbL x y,Met s.L (z.2.1.t,z.1)
 bg:∀ f F d,C[f]?=some F->d < F.facts->Met s.L ([f,d,0,d],0)
def T9(ky:Ky)(c k:Nat)(ps:List (Edge×Nat))(g b:Nat)(x:a0j):Prop:=∃ E n i t o,(E,n) ∈ ps/\E.k = .call g i t o/\b ∈ k8 (i.getD ky.d 0)/\x=⟨c + E.cost,ky,k,n,E⟩
structure Part(C:d9)(I0:List (Ky×Nat))(s0:Se)(ky:Ky)(c:Nat)(ps:List (Edge×Nat))(s:Se):Prop where
 mid:Mid C s
 eI:s.I=I0 ++ [(ky,c)]
 ers:s.rs=s0.rs
 een:s.en=s0.en
 le:Le s0.L s.L
 ca:∀ g b x,x ∈ s.ca g b ↔ CaOf C I0 g b x\/T9 ky c I0.length ps g b x
 cl:∀ g b,(s.ca g b).length <= 600 * I0.length + 6 * ps.length
 ov:∀ E n,(E,n) ∈ ps->∀ z ∈ gpL c ky I0.length n E,Met s.L (z.2.1.t,z.1)
 sh:∀ g b x y,T9 ky c I0.length ps g b x->y ∈ s.en g b->∀ z ∈ cbL x y,Met s.L (z.2.1.t,z.1)
theorem J2{m:Nat}(h:m < 64):(k8 m).length <= 6:=by rw [J4 h];exact c2l m
theorem a2W{C:d9}(wf:WF C){I0:List (Ky×Nat)}{s0:Se}{ky:Ky}{c:Nat}{ps:List (Edge×Nat)}{F:Fn}{E:Edge}{n g:Nat}{i t o:List Nat}(hF:C[ky.f]?=some F)(hE:F.edges[n]?=some E)(hp:E.p=ky.p)(hk:E.k = .call g i t o)(top:∀ y ∈ I0 ++ [(ky,c)],y.2 <= c)(en:∀ f a y,y ∈ s0.en f a ↔ EnOf C (I0 ++ [(ky,c)]) f a y) :
  ∀ (bs q:List Nat) (s:Se),(∀ b ∈ bs,b ∈ k8 (i.getD ky.d 0)) ->
  (Mid C s/\s.I=I0 ++ [(ky,c)]/\s.rs=s0.rs/\s.en=s0.en/\Le s0.L s.L /\
   (∀ g' b' x,x ∈ s.ca g' b' ↔ CaOf C I0 g' b' x\/T9 ky c I0.length ps g' b' x\/(g'=g/\b' ∈ q/\x=⟨c + E.cost,ky,I0.length,n,E⟩)) /\
   (∀ g' b',(s.ca g' b').length <= 600 * I0.length + 6 * ps.length + q.length) /\
   (∀ b' y,b' ∈ q->y ∈ s.en g b'->∀ z ∈ cbL ⟨c + E.cost,ky,I0.length,n,E⟩ y,Met s.L (z.2.1.t,z.1))) ->
  let s':=bs.foldl (gi1 g ⟨c + E.cost,ky,I0.length,n,E⟩) s
  Le s.L s'.L/\Mid C s'/\s'.I=I0 ++ [(ky,c)]/\s'.rs=s0.rs/\s'.en=s0.en/\Le s0.L s'.L /\
   (∀ g' b' x,x ∈ s'.ca g' b' ↔ CaOf C I0 g' b' x\/T9 ky c I0.length ps g' b' x\/(g'=g/\b' ∈ q ++ bs/\x=⟨c + E.cost,ky,I0.length,n,E⟩)) /\
   (∀ g' b',(s'.ca g' b').length <= 600 * I0.length + 6 * ps.length + (q ++ bs).length) /\
   (∀ b' y,b' ∈ q ++ bs->y ∈ s'.en g b'->∀ z ∈ cbL ⟨c + E.cost,ky,I0.length,n,E⟩ y,Met s'.L (z.2.1.t,z.1))
 |[],q,s,_,h=>by rw [List.append_nil];exact ⟨Le.refl _,h⟩
 |b :: bs,q,s,hb,⟨m,eI,ers,een,le,ca,cl,sh⟩=>by
  have new:CaOf C (I0 ++ [(ky,c)]) g b ⟨c + E.cost,ky,I0.length,n,E⟩:=⟨ky,c,I0.length,n,F,E,i,t,o,B3 _ _,hF,hE,hp,hk,hb b List.mem_cons_self,rfl⟩
  have m1:Mid C { s with ca:=D9 s.ca g b (s.ca g b ++ [⟨c + E.cost,ky,I0.length,n,E⟩]) }:=⟨m.pap,m.nd,m.ti,m.tl,m.tt,m.td,m.vl,m.cu,m.np,m.pl,m.pn,m.lk⟩
  obtain ⟨m2,st,mt⟩:=m1.offs wf (l:=(s.en g b).flatMap (cbL ⟨c + E.cost,ky,I0.length,n,E⟩)) fun z hz=>by
   obtain ⟨y,hy,hz⟩:=List.mem_flatMap.mp hz;rw [een] at hy;refine ⟨?_,fun w hw=>?_⟩
   ·show f9 C 0 (x0 s.I) _=_;rw [eI];exact a4B new ((en _ _ _).mp hy) hz
   ·have hw:w ∈ s.I:=hw;rw [eI] at hw
    have:=top w hw
    unfold cbL at hz;obtain ⟨e,_,rfl⟩:=List.mem_map.mp hz;show w.2 <= c + E.cost + y.cost;omega
  have r:=a2W wf (ps:=ps) hF hE hp hk top en bs (q ++ [b]) (gi1 g ⟨c + E.cost,ky,I0.length,n,E⟩ s b) (fun b' h'=>hb b' (List.mem_cons_of_mem _ h')) ⟨m2,st.I.trans eI,st.rs.trans ers,st.en.trans een,le.trans st.le,fun g' b' x=>?_,fun g' b'=>?_,fun b' y hb' hy z hz=>?_⟩
  ·rw [List.append_assoc] at r;exact ⟨st.le.trans r.1,r.2⟩
  ·have:(gi1 g ⟨c + E.cost,ky,I0.length,n,E⟩ s b).ca=_:=st.ca
   rw [this];show x ∈ D9 s.ca g b (s.ca g b ++ [_]) g' b' ↔ _
   by_cases z:g'=g/\b'=b
   ·obtain ⟨rfl,rfl⟩:=z;rw [C4,List.mem_append,ca,List.mem_singleton]
    constructor
    ·rintro ((h | h | h) | h)
     ·exact .inl h
     ·exact .inr (.inl h)
     ·exact .inr (.inr ⟨rfl,List.mem_append_left _ h.2.1,h.2.2⟩)
     ·exact .inr (.inr ⟨rfl,List.mem_append_right _ (List.mem_singleton.mpr rfl),h⟩)
    ·rintro (h | h | h)
     ·exact .inl (.inl h)
     ·exact .inl (.inr (.inl h))
     ·exact .inr h.2.2
   ·rw [L1 z,ca]
    constructor
    ·rintro (h | h | h)
     ·exact .inl h
     ·exact .inr (.inl h)
     ·exact .inr (.inr ⟨h.1,List.mem_append_left _ h.2.1,h.2.2⟩)
    ·rintro (h | h | ⟨h1,h2,h3⟩)
     ·exact .inl h
     ·exact .inr (.inl h)
     ·rcases List.mem_append.mp h2 with w | w
      ·exact .inr (.inr ⟨h1,w,h3⟩)
      ·exact absurd ⟨h1,List.mem_singleton.mp w⟩ z
  ·have:(gi1 g ⟨c + E.cost,ky,I0.length,n,E⟩ s b).ca=_:=st.ca
   rw [this];show (D9 s.ca g b (s.ca g b ++ [_]) g' b').length <= _;rw [List.length_append,List.length_singleton]
   by_cases z:g'=g/\b'=b
   ·obtain ⟨rfl,rfl⟩:=z;rw [C4,List.length_append,List.length_singleton]
    have:=cl g' b';omega
   ·rw [L1 z];have:=cl g' b';omega
  ·have een2:(gi1 g ⟨c + E.cost,ky,I0.length,n,E⟩ s b).en=s.en:=st.en;rw [een2] at hy
   rcases List.mem_append.mp hb' with w | w
   ·exact st.le.met (sh b' y w hy z hz)
   ·rw [List.mem_singleton.mp w] at hy;exact mt z (List.mem_flatMap.mpr ⟨y,hy,hz⟩)
theorem Part.edge{C:d9}(wf:WF C){I0:List (Ky×Nat)}{s0:Se}{ky:Ky}{c:Nat}{ps:List (Edge×Nat)}{s:Se}{F:Fn}{E:Edge}{n:Nat}(h:Part C I0 s0 ky c ps s)(hF:C[ky.f]?=some F)(hE:F.edges[n]?=some E)(hp:E.p=ky.p)(hd:ky.d < F.facts)(top:∀ y ∈ I0 ++ [(ky,c)],y.2 <= c)(en:∀ f a y,y ∈ s0.en f a ↔ EnOf C (I0 ++ [(ky,c)]) f a y) :
  Part C I0 s0 ky c (ps ++ [(E,n)]) (G5 c ky I0.length s (E,n)):=by
 obtain ⟨m,eI,ers,een,le,ca,cl,ov,sh⟩:=h
 obtain ⟨m2,st,mt⟩:=m.offs wf (l:=gpL c ky I0.length n E) fun z hz=>by
  refine ⟨?_,fun w hw=>?_⟩
  ·rw [eI];exact b5d (B3 _ _) hF hE hp hz
  ·rw [eI] at hw
   have:=top w hw
   unfold gpL at hz;obtain ⟨e,_,rfl⟩:=List.mem_map.mp hz;show w.2 <= c + E.cost;omega
 have nc:∀ g b x,T9 ky c I0.length (ps ++ [(E,n)]) g b x ↔ T9 ky c I0.length ps g b x\/∃ i t o,E.k = .call g i t o/\b ∈ k8 (i.getD ky.d 0)/\x=⟨c + E.cost,ky,I0.length,n,E⟩:=by
  intro g b x
  constructor
  ·rintro ⟨E',n',i,t,o,h1,h2,h3,h4⟩
   rcases List.mem_append.mp h1 with w | w
   ·exact .inl ⟨E',n',i,t,o,w,h2,h3,h4⟩
   ·have w:=List.mem_singleton.mp w
    injection w with w1 w2
    subst w1 w2;exact .inr ⟨i,t,o,h2,h3,h4⟩
  ·rintro (⟨E',n',i,t,o,h1,h2,h3,h4⟩ | ⟨i,t,o,h2,h3,h4⟩)
   ·exact ⟨E',n',i,t,o,List.mem_append_left _ h1,h2,h3,h4⟩
   ·exact ⟨E,n,i,t,o,List.mem_append_right _ (List.mem_singleton.mpr rfl),h2,h3,h4⟩
 cases hk:E.k with
 |step tt =>
  have is:E.isStep=true:=by unfold Edge.isStep;rw [hk]
  have e1:G5 c ky I0.length s (E,n)=offs s (gpL c ky I0.length n E):=if_pos is;rw [e1]
  have nn:∀ g b x,T9 ky c I0.length (ps ++ [(E,n)]) g b x ↔ T9 ky c I0.length ps g b x:=fun g b x=>by
   rw [nc];exact ⟨fun h=>h.elim id fun ⟨i,t,o,h,_⟩=>(by rw [hk] at h;cases h),.inl⟩
  refine ⟨m2,st.I.trans eI,st.rs.trans ers,st.en.trans een,le.trans st.le,fun g b x=>by rw [st.ca,ca,nn],fun g b=>by rw [st.ca];have:=cl g b;rw [List.length_append,List.length_singleton];omega,fun E' n' he z hz=>?_,fun g b x y hx hy z hz=>?_⟩
  ·rcases List.mem_append.mp he with w | w
   ·exact st.le.met (ov E' n' w z hz)
   ·have w:=List.mem_singleton.mp w
    injection w with w1 w2
    subst w1 w2;exact mt z hz
  ·rw [st.en] at hy;exact st.le.met (sh g b x y ((nn g b x).mp hx) hy z hz)
 |call g i t o =>
  have is:¬ E.isStep=true:=by unfold Edge.isStep;rw [hk];exact Bool.false_ne_true
  have it:a3f E=(g,i):=by unfold a3f;rw [hk]
  have e1:G5 c ky I0.length s (E,n)=(k8 (i.getD ky.d 0)).foldl (gi1 g ⟨c + E.cost,ky,I0.length,n,E⟩) (offs s (gpL c ky I0.length n E)):=by
   unfold G5;rw [if_neg is];unfold gin;rw [it]
  rw [e1]
  obtain ⟨G,hG,ti,_,_⟩:∃ G,C[g]?=some G/\tOk i F.facts G.facts/\tOk t G.facts F.facts/\tOk o F.facts F.facts:=by
   have:=((wf.fn _ F hF).2.2.2.2.2 E (List.mem_of_getElem? hE)).2.2.2.2
   rw [hk] at this;exact this
  have fl:(k8 (i.getD ky.d 0)).length <= 6:=J2 (a2S (ti.get hd).2 (wf.fn _ G hG).2.2.2.1)
  obtain ⟨le1,r1,r2,r3,r4,r5,r6,r7,r8⟩:=a2W wf hF hE hp hk top en (k8 (i.getD ky.d 0)) [] (offs s (gpL c ky I0.length n E)) (fun _ h=>h) ⟨m2,st.I.trans eI,st.rs.trans ers,st.en.trans een,le.trans st.le,fun g' b' x=>by
   rw [st.ca,ca];exact ⟨fun h=>h.elim .inl fun h=>.inr (.inl h),fun h=>h.elim .inl fun h=>h.elim .inr fun h=>nomatch h.2.1⟩,fun g' b'=>by rw [st.ca];exact Nat.le_trans (cl g' b') (Nat.le_add_right _ _),fun _ _ h=>nomatch h⟩
  rw [List.nil_append] at r6 r7 r8;refine ⟨r1,r2,r3,r4,r5,fun g' b' x=>?_,fun g' b'=>?_,fun E' n' he z hz=>?_,fun g' b' x y hx hy z hz=>?_⟩
  ·rw [r6,nc]
   constructor
   ·rintro (h | h | ⟨h1,h2,h3⟩)
    ·exact .inl h
    ·exact .inr (.inl h)
    ·exact .inr (.inr ⟨i,t,o,by rw [h1];exact hk,h2,h3⟩)
   ·rintro (h | h | ⟨i',t',o',h1,h2,h3⟩)
    ·exact .inl h
    ·exact .inr (.inl h)
    ·rw [hk] at h1;cases h1;exact .inr (.inr ⟨rfl,h2,h3⟩)
  ·have:=r7 g' b'
   rw [List.length_append,List.length_singleton];omega
  ·rcases List.mem_append.mp he with w | w
   ·exact (st.le.trans le1).met (ov E' n' w z hz)
   ·have w:=List.mem_singleton.mp w
    injection w with w1 w2
    subst w1 w2;exact le1.met (mt z hz)
  ·rcases (nc g' b' x).mp hx with w | ⟨i',t',o',h1,h2,h3⟩
   ·have hy':y ∈ s.en g' b':=by rw [r4] at hy;rw [een];exact hy
    exact (st.le.trans le1).met (sh g' b' x y w hy' z hz)
   ·rw [hk] at h1;cases h1;subst h3;exact r8 b' y h2 hy z hz
theorem Part.edges{C:d9}(wf:WF C){I0:List (Ky×Nat)}{s0:Se}{ky:Ky}{c:Nat}{F:Fn}(hF:C[ky.f]?=some F)(hd:ky.d < F.facts)(top:∀ y ∈ I0 ++ [(ky,c)],y.2 <= c)(en:∀ f a y,y ∈ s0.en f a ↔ EnOf C (I0 ++ [(ky,c)]) f a y) :
  ∀ {es ps:List (Edge×Nat)} {s:Se},(∀ E n,(E,n) ∈ es->F.edges[n]?=some E/\E.p=ky.p)->Part C I0 s0 ky c ps s->Part C I0 s0 ky c (ps ++ es) (es.foldl (G5 c ky I0.length) s)
 |[],ps,s,_,h=>by rw [List.append_nil];exact h
 |(E,n) :: es,ps,s,he,h=>by
  obtain ⟨h1,h2⟩:=he E n List.mem_cons_self
  have:=Part.edges wf hF hd top en (es:=es) (fun E' n' h'=>he E' n' (List.mem_cons_of_mem _ h')) (h.edge wf hF h1 h2 hd top en)
  rw [List.append_assoc] at this;exact this
theorem CaOf.mono{C:d9}{I:List (Ky×Nat)}{z:Ky×Nat}{g b:Nat}{x:a0j}(h:CaOf C I g b x):CaOf C (I ++ [z]) g b x:=by
 obtain ⟨ky,c,k,n,F,E,i,t,o,e1,r⟩:=h;exact ⟨ky,c,k,n,F,E,i,t,o,R0 e1,r⟩
theorem EnOf.mono{C:d9}{I:List (Ky×Nat)}{z:Ky×Nat}{f a:Nat}{y:En}(h:EnOf C I f a y):EnOf C (I ++ [z]) f a y:=by
 obtain ⟨ky,c,k,F,e1,r⟩:=h;exact ⟨ky,c,k,F,R0 e1,r⟩
theorem a4F{C:d9}(wf:WF C){s:Se}{n:Nat}{x:Of}{F:Fn}(fu:Full C s)(m:Mid C (C6 s n x))(top:∀ y ∈ (C6 s n x).I,y.2 <= x.1)(hF:C[x.2.1.f]?=some F) :
  let s1:=K3 F (C6 s n x) x.1 x.2.1 s.I.length
  Mid C s1/\s1.I=s.I ++ [(x.2.1,x.1)]/\s1.rs=s.rs ++ [x.2.2]/\s1.ca=s.ca/\Le s.L s1.L/\(∀ f a y,y ∈ s1.en f a ↔ EnOf C (s.I ++ [(x.2.1,x.1)]) f a y)/\(∀ f a,(s1.en f a).length <= s.I.length + 1) /\
  (∀ g b c y,CaOf C s.I g b c->EnOf C (s.I ++ [(x.2.1,x.1)]) g b y->∀ z ∈ cbL c y,Met s1.L (z.2.1.t,z.1)):=by
 have nw:∀ f a y,EnOf C (s.I ++ [(x.2.1,x.1)]) f a y ↔ EnOf C s.I f a y\/(x.2.1.p + 1=F.places/\x.2.1.f=f/\x.2.1.a=a/\y=⟨x.1,x.2.1.d,s.I.length⟩):=by
  intro f a y
  constructor
  ·rintro ⟨ky,c,k,G,e1,e2,e3,e4,e5,e6⟩
   rcases D2 e1 with w | ⟨w1,w2⟩
   ·exact .inl ⟨ky,c,k,G,w,e2,e3,e4,e5,e6⟩
   ·injection w2 with w2 w3
    subst w2 w3 w1;rw [<- e2,hF] at e4;cases e4;exact .inr ⟨e5,e2,e3,e6⟩
  ·rintro (h | ⟨h1,h2,h3,h4⟩)
   ·exact h.mono
   ·exact ⟨x.2.1,x.1,s.I.length,F,B3 _ _,h2,h3,by rw [<- h2];exact hF,h1,h4⟩
 unfold K3
 by_cases ex:x.2.1.p + 1=F.places
 ·rw [if_pos ex];have m1:Mid C { C6 s n x with en:=D9 (C6 s n x).en x.2.1.f x.2.1.a ((C6 s n x).en x.2.1.f x.2.1.a ++ [⟨x.1,x.2.1.d,s.I.length⟩]) }:=⟨m.pap,m.nd,m.ti,m.tl,m.tt,m.td,m.vl,m.cu,m.np,m.pl,m.pn,m.lk⟩
  have eNew:EnOf C (s.I ++ [(x.2.1,x.1)]) x.2.1.f x.2.1.a ⟨x.1,x.2.1.d,s.I.length⟩:=(nw _ _ _).mpr (.inr ⟨ex,rfl,rfl,rfl⟩)
  obtain ⟨m2,st,mt⟩:=m1.offs wf (l:=((C6 s n x).ca x.2.1.f x.2.1.a).flatMap fun c=>cbL c ⟨x.1,x.2.1.d,s.I.length⟩) fun z hz=>by
   obtain ⟨y,hy,hz⟩:=List.mem_flatMap.mp hz;refine ⟨a4B ((fu.rc.ca _ _ _).mp hy).mono eNew hz,fun w hw=>?_⟩
   have:=top w hw
   unfold cbL at hz;obtain ⟨e,_,rfl⟩:=List.mem_map.mp hz;show w.2 <= y.cost + x.1;omega
  have een:(cte (C6 s n x) x.1 x.2.1 s.I.length).en=D9 s.en x.2.1.f x.2.1.a (s.en x.2.1.f x.2.1.a ++ [⟨x.1,x.2.1.d,s.I.length⟩]):=st.en;refine ⟨m2,st.I,st.rs,st.ca,st.le,fun f a y=>?_,fun f a=>?_,fun g b c y hc hy z hz=>?_⟩
  ·rw [een,nw]
   by_cases w:f=x.2.1.f/\a=x.2.1.a
   ·obtain ⟨rfl,rfl⟩:=w;rw [C4,List.mem_append,fu.rc.en,List.mem_singleton];exact ⟨fun h=>h.imp id fun h=>⟨ex,rfl,rfl,h⟩,fun h=>h.imp id fun h=>h.2.2.2⟩
   ·rw [L1 w,fu.rc.en];exact ⟨.inl,fun h=>h.elim id fun h=>absurd ⟨h.2.1.symm,h.2.2.1.symm⟩ w⟩
  ·rw [een]
   by_cases w:f=x.2.1.f/\a=x.2.1.a
   ·obtain ⟨rfl,rfl⟩:=w;rw [C4,List.length_append,List.length_singleton]
    have:=fu.rc.el x.2.1.f x.2.1.a;omega
   ·rw [L1 w];have:=fu.rc.el f a;omega
  ·rcases (nw g b y).mp hy with w | ⟨w1,w2,w3,w4⟩
   ·exact st.le.met (fu.sh g b c y hc w z hz)
   ·subst w2 w3 w4;exact mt z (List.mem_flatMap.mpr ⟨c,(fu.rc.ca _ _ _).mpr hc,hz⟩)
 ·rw [if_neg ex];refine ⟨m,rfl,rfl,rfl,Le.refl _,fun f a y=>?_,fun f a=>Nat.le_succ_of_le (fu.rc.el f a),fun g b c y hc hy z hz=>?_⟩
  ·show y ∈ s.en f a ↔ _;rw [fu.rc.en,nw];exact ⟨.inl,fun h=>h.elim id fun h=>absurd h.1 ex⟩
  ·rcases (nw g b y).mp hy with w | w
   ·exact fu.sh g b c y hc w z hz
   ·exact absurd w.1 ex
theorem Full.settle{C:d9}(wf:WF C){s:Se}{n:Nat}{x:Of}{F:Fn}(fu:Full C s)(hn:n ∈ s.pd)(e:s.T[n]?=some x)(el:look s.L x.2.1.t=some x.1)(mn:∀ k ∈ s.pd,∀ y:Of,s.T[k]?=some y->x.1 <= y.1)(hF:C[x.2.1.f]?=some F)(hd:x.2.1.d < F.facts) :
  Full C (K6 F s n x)/\(K6 F s n x).I=s.I ++ [(x.2.1,x.1)]:=by
 obtain ⟨m0,top⟩:=fu.mid.settle hn e el mn;obtain ⟨m1,a1,a2,a3,a4,a5,a6,a7⟩:=a4F wf fu m0 top hF
 have p0:Part C s.I (K3 F (C6 s n x) x.1 x.2.1 s.I.length) x.2.1 x.1 [] (K3 F (C6 s n x) x.1 x.2.1 s.I.length):=by
  refine ⟨m1,a1,rfl,rfl,Le.refl _,fun g b y=>?_,fun g b=>?_,(fun _ _ h=>nomatch h),fun g b c y h=>by obtain ⟨_,_,_,_,_,h,_⟩:=h;cases h⟩
  ·rw [a3,fu.rc.ca];exact ⟨.inl,fun h=>h.elim id fun ⟨_,_,_,_,_,h,_⟩=>nomatch h⟩
  ·rw [a3];exact fu.rc.cl g b
 have P:=Part.edges wf hF hd top a5 (es:=O5 F x.2.1.p) (fun E k h=>mem_fromE.mp h) p0;rw [List.nil_append] at P;have P:Part C s.I _ x.2.1 x.1 (O5 F x.2.1.p) (K6 F s n x):=P
 have caI:∀ g b y,CaOf C (s.I ++ [(x.2.1,x.1)]) g b y ↔ CaOf C s.I g b y\/T9 x.2.1 x.1 s.I.length (O5 F x.2.1.p) g b y:=by
  intro g b y
  constructor
  ·rintro ⟨ky,c,k,j,G,E,i,t,o,e1,e2,e3,e4,e5,e6,e7⟩
   rcases D2 e1 with w | ⟨w1,w2⟩
   ·exact .inl ⟨ky,c,k,j,G,E,i,t,o,w,e2,e3,e4,e5,e6,e7⟩
   ·injection w2 with w2 w3
    subst w2 w3 w1;rw [hF] at e2;cases e2;exact .inr ⟨E,j,i,t,o,mem_fromE.mpr ⟨e3,e4⟩,e5,e6,e7⟩
  ·rintro (h | ⟨E,j,i,t,o,h1,h2,h3,h4⟩)
   ·exact h.mono
   ·obtain ⟨q1,q2⟩:=mem_fromE.mp h1;exact ⟨x.2.1,x.1,s.I.length,j,F,E,i,t,o,B3 _ _,hF,q1,q2,h2,h3,h4⟩
 have eI:(K6 F s n x).I=s.I ++ [(x.2.1,x.1)]:=P.eI;have le:Le s.L (K6 F s n x).L:=a4.trans P.le;have fl:(O5 F x.2.1.p).length <= 100:=Nat.le_trans (a1o F _) (wf.fn _ F hF).2.2.2.2.1;refine ⟨⟨P.mid,⟨fun g b y=>?_,fun f a y=>?_,fun g b=>?_,fun f a=>?_⟩,fun ky c G E k hI hG hE hp z hz=>?_,fun g b c y hc hy z hz=>?_,fun f G d h1 h2=>le.met (fu.bg f G d h1 h2)⟩,eI⟩
 ·rw [eI,P.ca,caI]
 ·rw [eI,P.een,a5]
 ·have:=P.cl g b
  rw [eI,List.length_append,List.length_singleton];omega
 ·rw [eI,P.een,List.length_append,List.length_singleton];exact a6 f a
 ·rw [eI] at hI
  rcases List.mem_append.mp hI with w | w
  ·exact le.met (fu.ov ky c G E k w hG hE hp z hz)
  ·have w:=List.mem_singleton.mp w
   injection w with w1 w2
   subst w1 w2;rw [hF] at hG;cases hG;exact P.ov E k (mem_fromE.mpr ⟨hE,hp⟩) (_,⟨_,_,E.q,z⟩,_) (List.mem_map.mpr ⟨z,hz,rfl⟩)
 ·rw [eI] at hc hy
  rcases (caI g b c).mp hc with w | w
  ·exact P.le.met (a7 g b c y w hy z hz)
  ·exact P.sh g b c y w (by rw [P.een,a5];exact hy) z hz
end CM
namespace CM
open PySem L2 DL
def se0:Se:=⟨[],[],[],[],[],fun _ _=>[],fun _ _=>[]⟩
def a0R(x:Fn×Nat):List Of:=(List.range x.1.facts).map fun d=>(0,⟨x.2,d,0,d⟩,.begin x.2 d)
def a6D(C:d9):List Of:=C.zipIdx.flatMap a0R
theorem b9X(C:d9):Mid C se0:=by
 refine ⟨rfl,List.nodup_nil,fun _ h=>(nomatch h),fun k c h=>(nomatch h),fun n x h=>?_,fun n m x y h=>?_,fun n x h=>?_,fun n h=>(nomatch h),fun n h=>(nomatch h),fun n h=>(nomatch h),List.nodup_nil,TOk.nil⟩ <;> exact absurd h (by rw [show se0.T=[] from rfl,List.getElem?_nil];exact fun z=>nomatch z)
theorem a9F{C:d9}:∀ z ∈ a6D C,E5 C se0 z:=fun z hz=>by
 obtain ⟨x,hx,hz⟩:=List.mem_flatMap.mp hz;unfold a0R at hz;obtain ⟨d,hd,rfl⟩:=List.mem_map.mp hz;have hd:=List.mem_range.mp hd;have hx:=List.mem_zipIdx_iff_getElem?.mp hx;refine ⟨?_,fun _ h=>nomatch h⟩;show (if (0:Int) <= (x.2:Int)/\(0:Int) <= (d:Int) then (C[(x.2:Int).toNat]?).bind fun F=>if (d:Int) < F.facts then some (Clm.within (x.2:Int).toNat (d:Int).toNat 0 (d:Int).toNat 0) else none else none)=_;rw [if_pos ⟨Int.natCast_nonneg _,Int.natCast_nonneg _⟩,Int.toNat_natCast,Int.toNat_natCast,hx];show (if (d:Int) < x.1.facts then some (Clm.within x.2 d 0 d 0) else none)=_;rw [if_pos (Int.ofNat_lt.mpr hd)];rfl
theorem c0w{C:d9}(wf:WF C):Full C (offs se0 (a6D C))/\(offs se0 (a6D C)).I=[]:=by
 obtain ⟨m,st,mt⟩:=(b9X C).offs wf a9F;have eI:(offs se0 (a6D C)).I=[]:=st.I;refine ⟨⟨m,⟨fun g b x=>?_,fun f a y=>?_,fun g b=>?_,fun f a=>?_⟩,fun ky c F E n h=>?_,fun g b x y h=>?_,fun f F d hf hd=>?_⟩,eI⟩
 ·rw [st.ca,eI];exact ⟨fun h=>(nomatch h),fun ⟨_,_,k,_,_,_,_,_,_,h,_⟩=>by rw [List.getElem?_nil] at h;cases h⟩
 ·rw [st.en,eI];exact ⟨fun h=>(nomatch h),fun ⟨_,_,k,_,h,_⟩=>by rw [List.getElem?_nil] at h;cases h⟩
 ·rw [st.ca];exact Nat.zero_le _
 ·rw [st.en];exact Nat.zero_le _
 ·rw [eI] at h;cases h
 ·obtain ⟨_,_,k,_,_,_,_,_,_,h,_⟩:=h;rw [eI,List.getElem?_nil] at h;cases h
 ·exact mt (0,⟨f,d,0,d⟩,.begin f d) (List.mem_flatMap.mpr ⟨(F,f),List.mem_zipIdx_iff_getElem?.mpr hf,List.mem_map.mpr ⟨d,List.mem_range.mpr hd,rfl⟩⟩)
structure b8h(C:d9)(rs:List Row)(I:List (Ky×Nat)):Prop where
 pap:p9 C 0 rs []=some (x0 I)
 nd:(I.map (·.1)).Nodup
 bg:∀ f F d,C[f]?=some F->d < F.facts->(⟨f,d,0,d⟩,0) ∈ I
 ov:∀ (ky:Ky) (c:Nat) (F:Fn) (E:Edge) (n:Nat),(ky,c) ∈ I->C[ky.f]?=some F->F.edges[n]?=some E->E.p=ky.p->∀ e ∈ k8 ((E1 E).getD ky.d 0),∃ c',(⟨ky.f,ky.a,E.q,e⟩,c') ∈ I/\c' <= c + E.cost
 sh:∀ (g b:Nat) (x:a0j) (y:En),CaOf C I g b x->EnOf C I g b y->∀ z ∈ cbL x y,∃ c',(z.2.1,c') ∈ I/\c' <= z.1
theorem Full.done{C:d9}{s:Se}(fu:Full C s)(h0:s.pd=[]):b8h C s.rs s.I:=by
 have key:∀ (k:Ky) (c:Nat),Met s.L (k.t,c)->∃ c',(k,c') ∈ s.I/\c' <= c:=fun k c ⟨c',h1,h2⟩=>by
  obtain ⟨ky,e,w⟩:=fu.mid.tl _ _ h1;rw [Ky.inj e]
  rcases w with w | ⟨n,hn,_⟩
  ·exact ⟨c',w,h2⟩
  ·rw [h0] at hn;cases hn
 refine ⟨fu.mid.pap,fu.mid.nd,fun f F d h1 h2=>?_,fun ky c F E n h1 h2 h3 h4 e he=>key ⟨_,_,_,_⟩ _ (fu.ov ky c F E n h1 h2 h3 h4 e he),fun g b x y h1 h2 z hz=>key _ _ (fu.sh g b x y h1 h2 z hz)⟩;obtain ⟨c',h3,h4⟩:=key ⟨f,d,0,d⟩ 0 (fu.bg f F d h1 h2);rw [Nat.le_zero.mp h4] at h3;exact h3
theorem a0i{α:Type}{l:List α}(nd:l.Nodup){i j:Nat}(hi:i < l.length)(hj:j < l.length)(e:l[i]=l[j]):i=j:=by
 have h:=List.pairwise_iff_getElem.mp nd
 rcases Nat.lt_trichotomy i j with z | z | z
 ·exact absurd e (h i j hi hj z)
 ·exact z
 ·exact absurd e.symm (h j i hj hi z)
theorem a7u{α:Type} [DecidableEq α]:∀ (T:List α) (B:Nat) (f:Nat->α),T.length < B->(∀ i j,i < B->j < B->f i=f j->i=j)->∃ i,i < B/\f i ∉ T
 |[],B,f,h,_=>⟨0,by simpa using h,by simp⟩
 |a :: T,B,f,h,inj=>by
  by_cases z:∃ k,k < B/\f k=a
  ·obtain ⟨k,hk,ek⟩:=z;have h:T.length + 1 < B:=h
   obtain ⟨i,hi,ni⟩:=a7u T (B - 1) (fun i=>if i < k then f i else f (i + 1)) (by omega) (fun i j hi hj e=>by
    have e:(if i < k then f i else f (i + 1))=if j < k then f j else f (j + 1):=e
    by_cases a1:i < k <;> by_cases a2:j < k
    ·rw [if_pos a1,if_pos a2] at e;exact inj i j (by omega) (by omega) e
    ·rw [if_pos a1,if_neg a2] at e;have:=inj i (j + 1) (by omega) (by omega) e;omega
    ·rw [if_neg a1,if_pos a2] at e;have:=inj (i + 1) j (by omega) (by omega) e;omega
    ·rw [if_neg a1,if_neg a2] at e;have:=inj (i + 1) (j + 1) (by omega) (by omega) e;omega)
   have ni:(if i < k then f i else f (i + 1)) ∉ T:=ni
   by_cases a1:i < k
   ·rw [if_pos a1] at ni;refine ⟨i,by omega,fun q=>?_⟩
    rcases List.mem_cons.mp q with q | q
    ·have:=inj i k (by omega) hk (q.trans ek.symm);omega
    ·exact ni q
   ·rw [if_neg a1] at ni;refine ⟨i + 1,by omega,fun q=>?_⟩
    rcases List.mem_cons.mp q with q | q
    ·have:=inj (i + 1) k (by omega) hk (q.trans ek.symm);omega
    ·exact ni q
  ·have h:T.length + 1 < B:=h;obtain ⟨i,hi,ni⟩:=a7u T B f (by omega) inj;exact ⟨i,hi,fun q=>(List.mem_cons.mp q).elim (fun q=>z ⟨i,hi,q⟩) ni⟩
theorem few{B M:Nat}{f:Nat->Nat}(lt:∀ i,i < B->f i < M)(inj:∀ i j,i < B->j < B->f i=f j->i=j):B <= M:=by
 rcases Nat.lt_or_ge M B with z | z
 ·obtain ⟨i,hi,n⟩:=a7u (List.range M) B f (by rw [List.length_range];exact z) inj;exact absurd (List.mem_range.mpr (lt i hi)) n
 ·exact z
def a5d:Kt->Nat
 |[f,a,p,d]=>((f * 6 + a) * 10 + p) * 6 + d
 |_=>0
theorem K4.lt{C:d9}(wf:WF C){k:Kt}(h:K4 C k):∃ f a p d,k=[f,a,p,d]/\f < 6/\a < 6/\p < 10/\d < 6:=by
 obtain ⟨f,a,p,d,F,e,hF,h1,h2,h3⟩:=h;have hf:=(List.getElem?_eq_some_iff.mp hF).1;have h4:=wf.six;obtain ⟨_,h5,_,h6,_⟩:=wf.fn f F hF;exact ⟨f,a,p,d,e,by omega,by omega,by omega,by omega⟩
theorem a8y{C:d9}(wf:WF C){k:Kt}(h:K4 C k):a5d k < 2160:=by
 obtain ⟨f,a,p,d,rfl,h1,h2,h3,h4⟩:=h.lt wf;show ((f * 6 + a) * 10 + p) * 6 + d < 2160;omega
theorem a6z{C:d9}(wf:WF C){k l:Kt}(h:K4 C k)(h':K4 C l)(e:a5d k=a5d l):k=l:=by
 obtain ⟨f,a,p,d,rfl,h1,h2,h3,h4⟩:=h.lt wf;obtain ⟨f',a',p',d',rfl,g1,g2,g3,g4⟩:=h'.lt wf;have e:((f * 6 + a) * 10 + p) * 6 + d=((f' * 6 + a') * 10 + p') * 6 + d':=e;have e1:f=f':=by omega
 have e2:a=a':=by omega
 have e3:p=p':=by omega
 have e4:d=d':=by omega
 rw [e1,e2,e3,e4]
theorem a2O{C:d9}(wf:WF C){ks:List Kt}(nd:ks.Nodup)(all:∀ k ∈ ks,K4 C k):ks.length <= 2160:=by
 have g:∀ i,i < ks.length->ks.getD i [] ∈ ks:=fun i hi=>by
  rw [List.getD_eq_getElem?_getD,List.getElem?_eq_getElem hi];exact List.getElem_mem hi
 refine few (f:=fun i=>a5d (ks.getD i [])) (fun i hi=>a8y wf (all _ (g i hi))) fun i j hi hj e=>?_;have e:=a6z wf (all _ (g i hi)) (all _ (g j hj)) e;rw [List.getD_eq_getElem?_getD,List.getD_eq_getElem?_getD,List.getElem?_eq_getElem hi,List.getElem?_eq_getElem hj] at e;exact a0i nd hi hj e
theorem Mid.Lfew{C:d9}{s:Se}(wf:WF C)(m:Mid C s):s.L.length <= 2160:=by
 have:=a2O wf m.lk.nd m.lk.all
 unfold keys at this
 rwa [List.length_map] at this
theorem Mid.kI{C:d9}{s:Se}(wf:WF C)(m:Mid C s){ky:Ky}{c:Nat}(h:(ky,c) ∈ s.I):K4 C ky.t:=by
 obtain ⟨F,h1,h2,h3,h4⟩:=J8 wf (cs:=[]) (fun c h=>nomatch h) m.pap (ky.w c) (List.mem_map.mpr ⟨(ky,c),h,rfl⟩);exact ⟨_,_,_,_,F,rfl,h1,h2,h3,h4⟩
theorem Mid.Ifew{C:d9}{s:Se}(wf:WF C)(m:Mid C s):s.I.length <= 2160:=by
 have:((s.I.map (·.1)).map Ky.t).length <= 2160:=a2O wf (by
  unfold List.Nodup;rw [List.pairwise_map]
  exact List.Pairwise.imp (fun h e=>h (Ky.inj e)) m.nd) fun k hk=>by
   obtain ⟨ky,h1,rfl⟩:=List.mem_map.mp hk;obtain ⟨x,h2,rfl⟩:=List.mem_map.mp h1;exact m.kI wf (c:=x.2) h2
 rwa [List.length_map,List.length_map] at this
def kAt(I:List (Ky×Nat))(k:Int):Ky:=match I[k.toNat]? with | some x=>x.1 | none=>⟨0,0,0,0⟩
def B9(I:List (Ky×Nat)):Row->Nat
 |.begin f d=>f.toNat * 6 + d.toNat
 |.mv w k n e=>100 + ((((((if w = .step then 0 else 1) * 6 + (kAt I k).f) * 100 + n.toNat) * 6 + (kAt I k).a) * 6 + (kAt I k).d) * 6 + e.toNat)
 |.short k n j e=>300000 + ((((((kAt I k).f * 100 + n.toNat) * 6 + (kAt I k).a) * 6 + (kAt I k).d) * 6 + (kAt I j).a) * 6 + (kAt I j).d) * 6 + e.toNat
 |_=>0
inductive R7(C:d9)(I:List (Ky×Nat)):Row->Prop
 |begin {f d:Nat}:f < 6->d < 6->R7 C I (.begin f d)
 |mv {w:Mv} {k n e:Nat} {ky:Ky} {c:Nat} {F:Fn} {E:Edge}:w ≠ .inn->I[k]?=some (ky,c)->C[ky.f]?=some F->F.edges[n]?=some E->E.p=ky.p->e < 6->n < 100->R7 C I (.mv w k n e)
 |short {k n j e:Nat} {ky kz:Ky} {c c':Nat} {F G:Fn} {E:Edge} {i t o:List Nat}:I[k]?=some (ky,c)->I[j]?=some (kz,c')->C[ky.f]?=some F->F.edges[n]?=some E->E.p=ky.p->E.k = .call kz.f i t o->C[kz.f]?=some G->kz.p + 1=G.places->e < 6->n < 100->R7 C I (.short k n j e)
theorem a7j{t:List Nat}{n m d:Nat}{e:Int}(ht:tOk t n m)(hd:d < n)(hb:br t d e=true):e.toNat < m:=by
 unfold br at hb;rw [Bool.and_eq_true] at hb;have hx:=(ht.get hd).2
 rcases Nat.lt_or_ge e.toNat m with z | z
 ·exact z
 ·rw [Nat.testBit_lt_two_pow (Nat.lt_of_lt_of_le hx (Nat.pow_le_pow_right (by decide) z))] at hb;exact absurd hb.2 Bool.false_ne_true
theorem J3{I:List (Ky×Nat)}{k:Int}{c:Clm}(h:i8 (x0 I) k=some c):∃ (j:Nat) (ky:Ky) (x:Nat),k=j/\I[j]?=some (ky,x)/\c=ky.w x:=by
 unfold i8 at h
 split at h
 ·rename_i z;unfold x0 at h;rw [List.getElem?_map] at h
  cases q:I[k.toNat]? with
  |none=>rw [q] at h;cases h
  |some y =>
   rw [q] at h;exact ⟨k.toNat,y.1,y.2,by omega,q,(Option.some.inj h).symm⟩
 ·cases h
theorem b6o{C:d9}(wf:WF C){I:List (Ky×Nat)}(ok:∀ c ∈ x0 I,Z0 C c){r:Row}{f a p d c:Nat}(h:f9 C 0 (x0 I) r=some (.within f a p d c)):R7 C I r:=by
 have mvc:∀ (w:Mv) (k n e:Int),w ≠ .inn->(match i8 (x0 I) k with | some (.within f a p d c)=>(n4 C f p d w n e).map fun E=>Clm.within f a E.q e.toNat (c + E.cost) | _=>none)=some (.within f a p d c)->R7 C I (.mv w k n e):=by
  intro w k n e hw h
  cases q:i8 (x0 I) k with
  |none=>rw [q] at h;cases h
  |some y =>
   obtain ⟨j,ky,x,rfl,h1,rfl⟩:=J3 q;rw [q] at h;have h:(n4 C ky.f ky.p ky.d w n e).map (fun E=>Clm.within ky.f ky.a E.q e.toNat (x + E.cost))=_:=h
   cases q2:n4 C ky.f ky.p ky.d w n e with
   |none=>rw [q2] at h;cases h
   |some E =>
    obtain ⟨t1,t2,t3,t4,t5⟩:=E6 q2;obtain ⟨F,f1,f2,f3⟩:=E7 t1;obtain ⟨F',g1,g2,g3,g4⟩:=ok _ (List.mem_map.mpr ⟨(ky,x),List.mem_of_getElem? h1,rfl⟩);rw [f2] at g1;cases g1;obtain ⟨_,_,_,w4,w5,w6⟩:=wf.fn _ F f2;have eo:=w6 E (List.mem_of_getElem? f3);have nl:=(List.getElem?_eq_some_iff.mp f3).1
    have el:e.toNat < 6:=by
     obtain ⟨_,_,_,_,ek⟩:=eo;obtain ⟨ep,eq,ec,kd⟩:=E
     cases kd with
     |step t =>
      cases w with
      |step=>have:=a7j ek g4 t4;omega
      |over=>cases t2
      |inn=>exact absurd rfl hw
     |call g i b o =>
      obtain ⟨G,_,_,_,o3⟩:=ek
      cases w with
      |step=>cases t2
      |over=>have:=a7j o3 g4 t4;omega
      |inn=>exact absurd rfl hw
    have en:n=((n.toNat:Nat):Int):=by omega
    have ee:e=((e.toNat:Nat):Int):=by omega
    rw [en,ee];exact .mv hw h1 f2 f3 t3 el (by omega)
 cases r with
 |begin f' d' =>
  have h:(if 0 <= f'/\0 <= d' then (C[f'.toNat]?).bind fun F=>if d' < F.facts then some (Clm.within f'.toNat d'.toNat 0 d'.toNat 0) else none else none)=_:=h
  split at h
  ·rename_i z
   cases q:C[f'.toNat]? with
   |none=>rw [q] at h;cases h
   |some F =>
    rw [q] at h;have h:(if d' < F.facts then some (Clm.within f'.toNat d'.toNat 0 d'.toNat 0) else none)=_:=h
    split at h
    ·have h6:=wf.six;have hl:=(List.getElem?_eq_some_iff.mp q).1;have hf:=(wf.fn _ F q).2.2.2.1;have e1:f'=((f'.toNat:Nat):Int):=by omega
     have e2:d'=((d'.toNat:Nat):Int):=by omega
     rw [e1,e2];exact .begin (by omega) (by omega)
    ·cases h
  ·cases h
 |start d' =>
  have h:(if 0 <= d' then (C[0]?).bind fun F=>if d' < F.facts/\Nat.testBit 0 d'.toNat=true then some (Clm.at 0 0 d'.toNat 0) else none else none)=_:=h
  split at h
  ·cases q:C[0]? with
   |none=>rw [q] at h;cases h
   |some F =>
    rw [q] at h;have h:(if d' < F.facts/\Nat.testBit 0 d'.toNat=true then some (Clm.at 0 0 d'.toNat 0) else none)=_:=h
    split at h <;> cases h
  ·cases h
 |mv w k n e =>
  cases w with
  |step=>exact mvc .step k n e (by decide) h
  |over=>exact mvc .over k n e (by decide) h
  |inn =>
   dsimp only [f9] at h
   cases q:i8 (x0 I) k with
   |none=>rw [q] at h;cases h
   |some y =>
    obtain ⟨j,ky,x,rfl,h1,rfl⟩:=J3 q;rw [q] at h;cases h
 |short k n j e =>
  dsimp only [f9] at h
  cases q:i8 (x0 I) k with
  |none=>rw [q] at h;cases h
  |some y =>
   obtain ⟨k',ky,x,rfl,h1,rfl⟩:=J3 q;rw [q] at h
   cases q':i8 (x0 I) j with
   |none=>rw [q'] at h;cases h
   |some y' =>
    obtain ⟨j',kz,x',rfl,h1',rfl⟩:=J3 q';rw [q'] at h;have h:((n4 C ky.f ky.p ky.d .inn n (kz.a:Int)).bind fun E=>match E.k with | .call g' _ bk _=>(C[g']?).bind fun G=>if g'=kz.f/\kz.p + 1=G.places/\br bk kz.d e=true then some (Clm.within ky.f ky.a E.q e.toNat (x + E.cost + x')) else none | _=>none)=_:=h
    cases q2:n4 C ky.f ky.p ky.d .inn n (kz.a:Int) with
    |none=>rw [q2] at h;cases h
    |some E =>
     rw [q2] at h;obtain ⟨F,g,i,b,o,G,a1,a2,a3,a4,a5,a6,a7,a8,a9,a10⟩:=N7 wf q2;obtain ⟨t1,_,_,_,_⟩:=E6 q2;obtain ⟨F',f1,f2,f3⟩:=E7 t1;rw [a1] at f2;cases f2;have h:(match E.k with | .call g' _ bk _=>(C[g']?).bind fun G=>if g'=kz.f/\kz.p + 1=G.places/\br bk kz.d e=true then some (Clm.within ky.f ky.a E.q e.toNat (x + E.cost + x')) else none | _=>none)=_:=h;rw [a2] at h;have h:((C[g]?).bind fun G=>if g=kz.f/\kz.p + 1=G.places/\br b kz.d e=true then some (Clm.within ky.f ky.a E.q e.toNat (x + E.cost + x')) else none)=_:=h;rw [a3] at h;have h:(if g=kz.f/\kz.p + 1=G.places/\br b kz.d e=true then some (Clm.within ky.f ky.a E.q e.toNat (x + E.cost + x')) else none)=_:=h
     split at h
     ·rename_i z;obtain ⟨z1,z2,z3⟩:=z;subst z1;obtain ⟨G',g1,g2,g3,g4⟩:=ok _ (List.mem_map.mpr ⟨(kz,x'),List.mem_of_getElem? h1',rfl⟩);rw [a3] at g1;cases g1;obtain ⟨_,_,_,w4,w5,_⟩:=wf.fn _ F a1;have nl:=(List.getElem?_eq_some_iff.mp f3).1;have el:=a7j a5 g4 z3
      have e0:0 <= e:=by
       unfold br at z3;rw [Bool.and_eq_true] at z3;exact of_decide_eq_true z3.1
      have en:n=((n.toNat:Nat):Int):=by omega
      have ee:e=((e.toNat:Nat):Int):=by omega
      rw [en,ee];exact .short h1 h1' a1 f3 a8 a2 a3 z2 (by omega) (by omega)
     ·cases h
 |along k j =>
  dsimp only [f9] at h
  cases q:i8 (x0 I) k with
  |none=>rw [q] at h;cases h
  |some y =>
   obtain ⟨k',ky,x,rfl,h1,rfl⟩:=J3 q;rw [q] at h
   cases q':i8 (x0 I) j <;> rw [q'] at h <;> cases h
theorem B8{I:List (Ky×Nat)}{k:Nat}{ky:Ky}{c:Nat}(h:I[k]?=some (ky,c)):kAt I (k:Int)=ky:=by
 unfold kAt;rw [Int.toNat_natCast,h]
theorem a2z{I:List (Ky×Nat)}(nd:(I.map (·.1)).Nodup){k j:Nat}{ky:Ky}{c c':Nat}(h:I[k]?=some (ky,c))(h':I[j]?=some (ky,c')):k=j:=by
 obtain ⟨l1,e1⟩:=List.getElem?_eq_some_iff.mp h;obtain ⟨l2,e2⟩:=List.getElem?_eq_some_iff.mp h';refine a0i nd (by rw [List.length_map];exact l1) (by rw [List.length_map];exact l2) ?_;rw [List.getElem_map,List.getElem_map,e1,e2]
theorem a7G{C:d9}(wf:WF C){I:List (Ky×Nat)}(ok:∀ x ∈ I,K4 C x.1.t){r:Row}(h:R7 C I r):B9 I r < 5000000:=by
 have lt:∀ {k:Nat} {ky:Ky} {c:Nat},I[k]?=some (ky,c)->ky.f < 6/\ky.a < 6/\ky.d < 6:=fun {k ky c} h=>by
  obtain ⟨f,a,p,d,e,h1,h2,h3,h4⟩:=(ok _ (List.mem_of_getElem? h)).lt wf;have e:[ky.f,ky.a,ky.p,ky.d]=[f,a,p,d]:=e
  injection e with e1 e
  injection e with e2 e
  injection e with e3 e
  injection e with e4 _
  omega
 cases h with
 |begin h1 h2=>simp only [B9,Int.toNat_natCast];omega
 |mv h1 h2 h3 h4 h5 h6 h7 =>
  obtain ⟨l1,l2,l3⟩:=lt h2;simp only [B9,B8 h2,Int.toNat_natCast]
  split <;> omega
 |short h1 h2 h3 h4 h5 h6 h7 h8 h9 h10 =>
  obtain ⟨l1,l2,l3⟩:=lt h1;obtain ⟨l4,l5,l6⟩:=lt h2;simp only [B9,B8 h1,B8 h2,Int.toNat_natCast];omega
theorem a5W{C:d9}(wf:WF C){I:List (Ky×Nat)}(nd:(I.map (·.1)).Nodup)(ok:∀ x ∈ I,K4 C x.1.t){r r':Row}(h:R7 C I r)(h':R7 C I r')(e:B9 I r=B9 I r'):r=r':=by
 have lt:∀ {k:Nat} {ky:Ky} {c:Nat},I[k]?=some (ky,c)->ky.f < 6/\ky.a < 6/\ky.d < 6:=fun {k ky c} h=>by
  obtain ⟨f,a,p,d,e,h1,h2,h3,h4⟩:=(ok _ (List.mem_of_getElem? h)).lt wf;have e:[ky.f,ky.a,ky.p,ky.d]=[f,a,p,d]:=e
  injection e with e1 e
  injection e with e2 e
  injection e with e3 e
  injection e with e4 _
  omega
 cases h with
 |@begin f d h1 h2 =>
  cases h' with
  |@begin f' d' g1 g2 =>
   simp only [B9,Int.toNat_natCast] at e;have e1:f=f':=by omega
   have e2:d=d':=by omega
   rw [e1,e2]
  |mv g1 g2=>simp only [B9,Int.toNat_natCast] at e;omega
  |short g1=>simp only [B9,Int.toNat_natCast] at e;omega
 |@mv w k n x ky c F E h1 h2 h3 h4 h5 h6 h7 =>
  obtain ⟨l1,l2,l3⟩:=lt h2
  cases h' with
  |begin g1 g2=>simp only [B9,Int.toNat_natCast] at e;omega
  |@mv w' k' n' x' ky' c' F' E' g1 g2 g3 g4 g5 g6 g7 =>
   obtain ⟨l4,l5,l6⟩:=lt g2;simp only [B9,B8 h2,B8 g2,Int.toNat_natCast] at e;have wb:∀ v:Mv,(if v = .step then 0 else 1) < 2:=fun v=>by split <;> decide
   have b1:=wb w;have b2:=wb w'
   have e0:(if w = .step then 0 else 1)=(if w' = .step then 0 else 1:Nat):=by
    generalize (if w = .step then 0 else 1:Nat)=u at *;generalize (if w' = .step then 0 else 1:Nat)=u' at *;omega
   have ew:w=w':=by
    cases w <;> cases w' <;> first | rfl | exact absurd e0 (by decide) | exact absurd rfl h1 | exact absurd rfl g1
   subst ew;generalize (if w = .step then 0 else 1:Nat)=u at *;obtain ⟨f1,a1,p1,d1⟩:=ky;obtain ⟨f2,a2,p2,d2⟩:=ky';dsimp only at *;have e1:f1=f2:=by omega
   have e2:n=n':=by omega
   have e3:a1=a2:=by omega
   have e4:d1=d2:=by omega
   have e5:x=x':=by omega
   subst e1 e2 e3 e4 e5;rw [h3] at g3;cases g3;rw [h4] at g4;cases g4
   have:p1=p2:=by rw [<- h5,<- g5]
   subst this;rw [a2z nd h2 g2]
  |short g1 g2 =>
   simp only [B9,B8 h2,Int.toNat_natCast] at e
   split at e <;> omega
 |@short k n j x ky kz c c' F G E i t o h1 h2 h3 h4 h5 h6 h7 h8 h9 h10 =>
  obtain ⟨l1,l2,l3⟩:=lt h1;obtain ⟨l1',l2',l3'⟩:=lt h2
  cases h' with
  |begin g1 g2=>simp only [B9,Int.toNat_natCast] at e;omega
  |mv g1 g2 g3 g4 g5 g6 g7 =>
   obtain ⟨l4,l5,l6⟩:=lt g2;simp only [B9,B8 g2,Int.toNat_natCast] at e
   split at e <;> omega
  |@short k' n' j' x' ky' kz' c2 c2' F' G' E' i' t' o' g1 g2 g3 g4 g5 g6 g7 g8 g9 g10 =>
   obtain ⟨l4,l5,l6⟩:=lt g1;obtain ⟨l4',l5',l6'⟩:=lt g2;simp only [B9,B8 h1,B8 g1,B8 h2,B8 g2,Int.toNat_natCast] at e;obtain ⟨f1,a1,p1,d1⟩:=ky;obtain ⟨f2,a2,p2,d2⟩:=ky';obtain ⟨f3,a3,p3,d3⟩:=kz;obtain ⟨f4,a4,p4,d4⟩:=kz';dsimp only at *;have e1:f1=f2:=by omega
   have e2:n=n':=by omega
   have e3:a1=a2:=by omega
   have e4:d1=d2:=by omega
   have e5:a3=a4:=by omega
   have e6:d3=d4:=by omega
   have e7:x=x':=by omega
   subst e1 e2 e3 e4 e5 e6 e7;rw [h3] at g3;cases g3;rw [h4] at g4;cases g4;rw [h6] at g6;cases g6;rw [h7] at g7;cases g7
   have:p1=p2:=by rw [<- h5,<- g5]
   subst this
   have:p3=p4:=by omega
   subst this;rw [a2z nd h1 g1,a2z nd h2 g2]
theorem Mid.Tfew{C:d9}{s:Se}(wf:WF C)(m:Mid C s):s.T.length <= 5000000:=by
 have ok:=J8 wf (cs:=[]) (fun c h=>nomatch h) m.pap;have okI:∀ x ∈ s.I,K4 C x.1.t:=fun x hx=>m.kI wf (c:=x.2) hx;have g:∀ i (hi:i < s.T.length),R7 C s.I (s.T[i]).2.2:=fun i hi=>b6o wf ok (m.vl i _ (List.getElem?_eq_getElem hi));refine few (f:=fun i=>match s.T[i]? with | some x=>B9 s.I x.2.2 | none=>0) (fun i hi=>?_) fun i j hi hj e=>?_
 ·show (match s.T[i]? with | some x=>B9 s.I x.2.2 | none=>0) < _;rw [List.getElem?_eq_getElem hi];exact a7G wf okI (g i hi)
 ·have e:(match s.T[i]? with | some x=>B9 s.I x.2.2 | none=>0)=(match s.T[j]? with | some x=>B9 s.I x.2.2 | none=>0):=e;rw [List.getElem?_eq_getElem hi,List.getElem?_eq_getElem hj] at e;have er:=a5W wf m.nd okI (g i hi) (g j hj) e;have v1:=m.vl i _ (List.getElem?_eq_getElem hi);have v2:=m.vl j _ (List.getElem?_eq_getElem hj);rw [er,v2] at v1;obtain ⟨k1,k2⟩:=Ky.w_inj (Option.some.inj v1);exact m.td i j _ _ (List.getElem?_eq_getElem hi) (List.getElem?_eq_getElem hj) k1.symm k2.symm
theorem Mid.Pfew{C:d9}{s:Se}(wf:WF C)(m:Mid C s):s.pd.length <= 5000000:=by
 refine few (f:=fun i=>s.pd.getD i 0) (fun i hi=>?_) fun i j hi hj e=>?_
 ·show s.pd.getD i 0 < _;rw [List.getD_eq_getElem?_getD,List.getElem?_eq_getElem hi];exact Nat.lt_of_lt_of_le (m.pl _ (List.getElem_mem hi)) (m.Tfew wf)
 ·have e:s.pd.getD i 0=s.pd.getD j 0:=e;rw [List.getD_eq_getElem?_getD,List.getD_eq_getElem?_getD,List.getElem?_eq_getElem hi,List.getElem?_eq_getElem hj] at e;exact a0i m.pn hi hj e
end CM
namespace CM
open PySem L2 DL
theorem B5{h0 l:Hh}{j:Nat}:(h0 ++ l)[h0.length + j]?=l[j]?:=by
 rw [List.getElem?_append_right (Nat.le_add_right _ _),Nat.add_sub_cancel_left]
theorem L0{h0 l:Hh}{j:Nat}{o:O}:(h0 ++ l).set (h0.length + j) o=h0 ++ l.set j o:=by
 rw [List.set_append_right _ _ (Nat.le_add_right _ _),Nat.add_sub_cancel_left]
def V5(T:List Of):Tb:=T.map fun x=>((x.1:Int),.tup [tkD x.2.1.t,rD x.2.2])
theorem T1(T:List Of):(V5 T).length=T.length:=List.length_map ..
theorem a2H(T:List Of)(x:Of):V5 (T ++ [x])=V5 T ++ [((x.1:Int),.tup [tkD x.2.1.t,rD x.2.2])]:=List.map_append
theorem a2b{T:List Of}{n:Nat}{x:Of}(e:T[n]?=some x):cst (V5 T) n=x.1:=by
 unfold cst V5;rw [List.getD_eq_getElem?_getD,List.getElem?_map,e];rfl
theorem b4z{T:List Of}{n:Nat}{x:Of}(e:T[n]?=some x):thg (V5 T) n = .tup [tkD x.2.1.t,rD x.2.2]:=by
 unfold thg V5;rw [List.getD_eq_getElem?_getD,List.getElem?_map,e];rfl
def P6(c:a0j):D:=.tup [nD c.cost,tkD c.key.t,nD c.k,nD c.n,eD c.E]
def a6a(e:En):D:=.tup [nD e.cost,nD e.d,nD e.k]
def fnd(I:List (Ky×Nat)):Ct:=I.zipIdx.map fun x=>(x.1.1.t,x.2)
abbrev Dyn:=List (Option (Bool×Nat×Nat)×List D)
def A7(y:Dyn):List O:=y.map fun x=>.lst x.2
structure Dy(n:Nat)(y:Dyn)(tg:Bool)(kvs:List (List Key×D))(f:Nat->Nat->List D):Prop where
 nd:(kvs.map (·.1)).Nodup
 all:∀ k ∈ kvs.map (·.1),∃ g b,k=kN [g,b]/\g < 6/\b < 6
 at_:∀ g b,(D5 kvs (kN [g,b])=none/\f g b=[])\/∃ i,D5 kvs (kN [g,b])=some (.ref (n + (9 + i)))/\y[i]?=some (some (tg,g,b),f g b)
def X8:List Key->Nat
 |[.inl g,.inl b]=>g.toNat * 6 + b.toNat
 |_=>0
theorem Dy.few{n:Nat}{y:Dyn}{tg:Bool}{kvs:List (List Key×D)}{f:Nat->Nat->List D}(d:Dy n y tg kvs f):kvs.length <= 36:=by
 have g:∀ i (hi:i < kvs.length),∃ g b,kvs[i].1=kN [g,b]/\g < 6/\b < 6:=fun i hi=>d.all _ (List.mem_map.mpr ⟨kvs[i],List.getElem_mem hi,rfl⟩)
 have c:∀ g b:Nat,X8 (kN [g,b])=g * 6 + b:=fun g b=>by
  show (g:Int).toNat * 6 + (b:Int).toNat=_;rw [Int.toNat_natCast,Int.toNat_natCast]
 refine CM.few (f:=fun i=>match kvs[i]? with | some x=>X8 x.1 | none=>0) (fun i hi=>?_) fun i j hi hj e=>?_
 ·obtain ⟨a,b,e1,h1,h2⟩:=g i hi;show (match kvs[i]? with | some x=>X8 x.1 | none=>0) < 36;rw [List.getElem?_eq_getElem hi];show X8 kvs[i].1 < 36;rw [e1,c];omega
 ·obtain ⟨a,b,e1,h1,h2⟩:=g i hi;obtain ⟨a',b',e1',h1',h2'⟩:=g j hj;have e:(match kvs[i]? with | some x=>X8 x.1 | none=>0)=(match kvs[j]? with | some x=>X8 x.1 | none=>0):=e;rw [List.getElem?_eq_getElem hi,List.getElem?_eq_getElem hj] at e;have e:X8 kvs[i].1=X8 kvs[j].1:=e;rw [e1,e1',c,c] at e;have x1:a=a':=by omega
  have x2:b=b':=by omega
  refine a0i d.nd (by rw [List.length_map];exact hi) (by rw [List.length_map];exact hj) ?_;rw [List.getElem_map,List.getElem_map,e1,e1',x1,x2]
def seO(n:Nat)(C:d9):O:=.ins "Search" [("chart",cD C),("offers",.ref (n + 1)),("rows",.ref (n + 5)),("found",.ref (n + 6)),("calls",.ref (n + 7)),("ends",.ref (n + 8))]
def ofO(n:Nat):O:=.ins "Offers" [("queue",.ref (n + 2)),("least",.ref (n + 4))]
def stH(n:Nat)(C:d9)(s:Se)(hs:List Nat)(kc ke:List (List Key×D)):List O :=
 [seO n C,ofO n,qO (n + 3) s.T.length,.lst (hs.map (hD (V5 s.T))),.dT none (tbD s.L),.lst (s.rs.map rD),.dT none (tbD (fnd s.I)),.dT none kc,.dT none ke]
structure P5 where
 kc:List (List Key×D)
 ke:List (List Key×D)
 y:Dyn
structure At(h0:Hh)(C:d9)(zr:P5)(s:Se)(h:Hh):Prop where
 ex:∃ hs,h=h0 ++ (stH h0.length C s hs zr.kc zr.ke ++ A7 zr.y)/\hs.Perm s.pd/\HP (ltT (V5 s.T)) hs/\Dy h0.length zr.y true zr.kc (fun g b=>(s.ca g b).map P6)/\Dy h0.length zr.y false zr.ke (fun f a=>(s.en f a).map a6a)
section
variable {h0 h:Hh} {C:d9} {zr:P5} {s:Se} {n:Nat} {Q:DK} {m:Str}
theorem At.se(a:At h0 C zr s h):h[h0.length]?=some (seO h0.length C):=by
 obtain ⟨hs,rfl,_⟩:=a.ex
 have:=B5 (h0:=h0) (l:=stH h0.length C s hs zr.kc zr.ke ++ A7 zr.y) (j:=0)
 rw [Nat.add_zero] at this;rw [this];rfl
theorem At.of(a:At h0 C zr s h):h[h0.length + 1]?=some (ofO h0.length):=by
 obtain ⟨hs,rfl,_⟩:=a.ex;rw [B5];rfl
theorem At.least(a:At h0 C zr s h):h[h0.length + 4]?=some (.dT none (tbD s.L)):=by
 obtain ⟨hs,rfl,_⟩:=a.ex;rw [B5];rfl
theorem At.rows(a:At h0 C zr s h):h[h0.length + 5]?=some (.lst (s.rs.map rD)):=by
 obtain ⟨hs,rfl,_⟩:=a.ex;rw [B5];rfl
theorem At.found(a:At h0 C zr s h):h[h0.length + 6]?=some (.dT none (tbD (fnd s.I))):=by
 obtain ⟨hs,rfl,_⟩:=a.ex;rw [B5];rfl
theorem V9(e:h[n]?=some (seO n C)):p8 "Search" "chart" (.ref n) h Q=Q (cD C) h:=by unfold p8;rw [u6 e];rfl
theorem F5(e:h[n]?=some (seO n C)):p8 "Search" "offers" (.ref n) h Q=Q (.ref (n + 1)) h:=by unfold p8;rw [u6 e];rfl
theorem a0z(e:h[n]?=some (seO n C)):p8 "Search" "rows" (.ref n) h Q=Q (.ref (n + 5)) h:=by unfold p8;rw [u6 e];rfl
theorem a1c(e:h[n]?=some (seO n C)):p8 "Search" "found" (.ref n) h Q=Q (.ref (n + 6)) h:=by unfold p8;rw [u6 e];rfl
theorem a1g(e:h[n]?=some (seO n C)):p8 "Search" "calls" (.ref n) h Q=Q (.ref (n + 7)) h:=by unfold p8;rw [u6 e];rfl
theorem a2G(e:h[n]?=some (seO n C)):p8 "Search" "ends" (.ref n) h Q=Q (.ref (n + 8)) h:=by unfold p8;rw [u6 e];rfl
theorem V2(e:h[n + 1]?=some (ofO n)):p8 "Offers" "queue" (.ref (n + 1)) h Q=Q (.ref (n + 2)) h:=by unfold p8;rw [u6 e];rfl
theorem W4(e:h[n + 1]?=some (ofO n)):p8 "Offers" "least" (.ref (n + 1)) h Q=Q (.ref (n + 4)) h:=by unfold p8;rw [u6 e];rfl
theorem Q9(e:h[n]?=some (seO n C))(l:([(Str.ofString "chart",cD C),(Str.ofString "offers",.ref (n + 1)),(Str.ofString "rows",.ref (n + 5)),(Str.ofString "found",.ref (n + 6)),(Str.ofString "calls",.ref (n + 7)),(Str.ofString "ends",.ref (n + 8))]:List (Str×D)).lookup m=none):a1V "Search" m h (.ref n):=by
 unfold a1V;rw [u6 e];exact l
theorem a0q(e:h[n + 1]?=some (ofO n))(l:([(Str.ofString "queue",.ref (n + 2)),(Str.ofString "least",.ref (n + 4))]:List (Str×D)).lookup m=none):a1V "Offers" m h (.ref (n + 1)):=by
 unfold a1V;rw [u6 e];exact l
end
theorem a4q{C:d9}{s:Se}(f:Full C s){n:Nat}{x:Of}(e:s.T[n]?=some x)(ne:look s.L x.2.1.t ≠ some x.1):Full C (y8 s n):=⟨f.mid.stale e ne,⟨f.rc.ca,f.rc.en,f.rc.cl,f.rc.el⟩,f.ov,f.sh,f.bg⟩
theorem V1{C:d9}(wf:WF C){s:Se}(m:Mid C s):s.L.length < 16777216/\s.pd.length < 10000000/\∀ n ∈ s.pd,n < s.T.length:=⟨by have:=m.Lfew wf;omega,by have:=m.Pfew wf;omega,m.pl⟩
theorem W1{α:Type}(s:Se)(f:α->Of)(p:List α)(y:α):offs s ((p ++ [y]).map f)=offer (offs s (p.map f)) (f y):=by rw [List.map_append,a0s];rfl
theorem a2w{C:d9}(wf:WF C){s:Se}(m:Mid C s){α:Type}{f:α->Of}{l p:List α}{y:α}{r:List α}(e:l=p ++ y :: r)(ok:∀ x ∈ l.map f,E5 C s x):Mid C (offs s (p.map f)):=(m.offs wf fun x hx=>ok x (by rw [e,List.map_append];exact List.mem_append_left _ hx)).1
section
variable {n:Nat} {y:Dyn} {tg:Bool} {kvs:List (List Key×D)} {f:Nat->Nat->List D}
theorem Dy.nil(n:Nat)(y:Dyn)(tg:Bool):Dy n y tg [] (fun _ _=>[]):=⟨List.nodup_nil,fun _ h=>(nomatch h),fun _ _=>.inl ⟨rfl,rfl⟩⟩
theorem Dy.app(d:Dy n y tg kvs f)(z:Option (Bool×Nat×Nat)×List D):Dy n (y ++ [z]) tg kvs f:=⟨d.nd,d.all,fun g b=>(d.at_ g b).imp id fun ⟨i,h1,h2⟩=>⟨i,h1,R0 h2⟩⟩
theorem Dy.congr{f':Nat->Nat->List D}(d:Dy n y tg kvs f)(e:∀ g b,f g b=f' g b):Dy n y tg kvs f':=by
 have:f=f':=by funext g b;exact e g b
 rw [<- this];exact d
theorem Dy.setO(d:Dy n y tg kvs f){i:Nat}{tg':Bool}{g b:Nat}{xs xs':List D}(e:y[i]?=some (some (tg',g,b),xs))(ne:tg' ≠ tg):Dy n (y.set i (some (tg',g,b),xs')) tg kvs f:=by
 refine ⟨d.nd,d.all,fun g' b'=>(d.at_ g' b').imp id fun ⟨j,h1,h2⟩=>⟨j,h1,?_⟩⟩
 have:i ≠ j:=fun z=>by
  subst z;rw [e] at h2
  injection h2 with h2
  injection h2 with h2 _
  injection h2 with h2
  injection h2 with h2 _
  exact ne h2
 rw [List.getElem?_set_ne this];exact h2
theorem Dy.set(d:Dy n y tg kvs f){i:Nat}{g b:Nat}{xs':List D}(hv:D5 kvs (kN [g,b])=some (.ref (n + (9 + i)))):Dy n (y.set i (some (tg,g,b),xs')) tg kvs (fun g' b'=>if g'=g/\b'=b then xs' else f g' b'):=by
 have e:y[i]?=some (some (tg,g,b),f g b):=by
  rcases d.at_ g b with ⟨h1,_⟩ | ⟨j,h1,h2⟩
  ·rw [h1] at hv;cases hv
  ·rw [h1] at hv
   injection hv with hv
   injection hv with hv
   have:j=i:=by omega
   rw [<- this];exact h2
 refine ⟨d.nd,d.all,fun g' b'=>?_⟩
 by_cases z:g'=g/\b'=b
 ·obtain ⟨rfl,rfl⟩:=z;refine .inr ⟨i,hv,?_⟩;rw [if_pos ⟨rfl,rfl⟩,List.getElem?_set_self (List.getElem?_eq_some_iff.mp e).1]
 ·rw [if_neg z];refine (d.at_ g' b').imp id fun ⟨j,h1,h2⟩=>⟨j,h1,?_⟩
  have:i ≠ j:=fun w=>by
   subst w;rw [e] at h2
   injection h2 with h2
   injection h2 with h2 _
   injection h2 with h2
   injection h2 with _ h2
   injection h2 with h3 h4
   exact z ⟨h3.symm,h4.symm⟩
  rw [List.getElem?_set_ne this];exact h2
theorem b0Q(kvs:List (List Key×D))(k k':List Key)(v:D):D5 (M9 kvs k v) k'=if k=k' then some v else D5 kvs k':=by
 unfold D5 M9
 by_cases c:(kvs.any fun kv=>decide (kv.1=k))=true
 ·rw [if_pos c]
  induction kvs with
  |nil=>cases c
  |cons x r ih =>
   rw [List.map_cons,List.find?_cons,List.find?_cons]
   by_cases e:x.1=k
   ·rw [if_pos e]
    by_cases e2:k=k'
    ·subst e2;rw [decide_eq_true (show (x.1,v).1=k from e),if_pos rfl];rfl
    ·rw [decide_eq_false (show ¬ (x.1,v).1=k' from fun z=>e2 (e.symm.trans z)),if_neg e2]
     by_cases c2:(r.any fun kv=>decide (kv.1=k))=true
     ·have:=ih c2;rw [if_neg e2] at this;exact this
     ·have:(r.map fun kv=>if kv.1=k then (kv.1,v) else kv)=r:=by
       refine (List.map_congr_left fun kv hkv=>?_).trans (List.map_id r);rw [if_neg fun z=>c2 (List.any_eq_true.mpr ⟨kv,hkv,decide_eq_true z⟩)];rfl
      rw [this]
   ·rw [if_neg e]
    have c2:(r.any fun kv=>decide (kv.1=k))=true:=by
     rw [List.any_cons,decide_eq_false e,Bool.false_or] at c;exact c
    by_cases e3:x.1=k'
    ·rw [decide_eq_true e3,if_neg fun z=>e (e3.trans z.symm)]
    ·rw [decide_eq_false e3];exact ih c2
 ·rw [if_neg c];rw [List.find?_append]
  by_cases e:k=k'
  ·subst e;rw [if_pos rfl]
   have:(kvs.find? fun kv=>decide (kv.1=k))=none:=by
    rw [List.find?_eq_none];intro x hx;exact fun z=>c (List.any_eq_true.mpr ⟨x,hx,z⟩)
   rw [this,Option.none_or,List.find?_cons,decide_eq_true rfl];rfl
  ·rw [if_neg e]
   cases q:kvs.find? fun kv=>decide (kv.1=k') with
   |some x=>rfl
   |none=>rw [Option.none_or,List.find?_cons,decide_eq_false e];rfl
theorem Q0{k:List Key}(h:D5 kvs k=none):k ∉ kvs.map (·.1):=fun z=>by
 obtain ⟨x,hx,e⟩:=List.mem_map.mp z;unfold D5 at h
 cases q:kvs.find? fun kv=>decide (kv.1=k) with
 |some y=>rw [q] at h;cases h
 |none =>
  rw [List.find?_eq_none] at q;exact q x hx (decide_eq_true e)
theorem a3r{k:List Key}{v:D}(h:D5 kvs k=none):M9 kvs k v=kvs ++ [(k,v)]:=by
 unfold M9;rw [if_neg];intro z;obtain ⟨x,hx,e⟩:=List.any_eq_true.mp z;exact Q0 h (List.mem_map.mpr ⟨x,hx,of_decide_eq_true e⟩)
theorem Dy.put(d:Dy n y tg kvs f){g b:Nat}{xs:List D}(hn:D5 kvs (kN [g,b])=none)(hg:g < 6)(hb:b < 6):Dy n (y ++ [(some (tg,g,b),xs)]) tg (M9 kvs (kN [g,b]) (.ref (n + (9 + y.length)))) (fun g' b'=>if g'=g/\b'=b then xs else f g' b'):=by
 refine ⟨?_,fun k hk=>?_,fun g' b'=>?_⟩
 ·rw [a3r hn,List.map_append];exact K8 d.nd (Q0 hn)
 ·rw [a3r hn,List.map_append] at hk
  rcases List.mem_append.mp hk with z | z
  ·exact d.all k z
  ·exact ⟨g,b,List.mem_singleton.mp z,hg,hb⟩
 ·rw [b0Q]
  by_cases z:g'=g/\b'=b
  ·obtain ⟨rfl,rfl⟩:=z;rw [if_pos rfl,if_pos ⟨rfl,rfl⟩];exact .inr ⟨y.length,rfl,B3 _ _⟩
  ·have:¬ kN [g,b]=kN [g',b']:=fun w=>by
    have w:=a2d w
    injection w with w1 w2
    injection w2 with w2 _
    exact z ⟨w1.symm,w2.symm⟩
   rw [if_neg this,if_neg z];exact (d.at_ g' b').imp id fun ⟨i,h1,h2⟩=>⟨i,h1,R0 h2⟩
end
def L3(a0 a1 a2 a3 a4 a5 a6:O)(kc ke:List (List Key×D)):List O:=[a0,a1,a2,a3,a4,a5,a6,.dT none kc,.dT none ke]
theorem S0(y:Dyn)(z:Option (Bool×Nat×Nat)×List D):A7 (y ++ [z])=A7 y ++ [.lst z.2]:=List.map_append
theorem a7C(y:Dyn)(i:Nat)(t:Option (Bool×Nat×Nat))(xs:List D):(A7 y).set i (.lst xs)=A7 (y.set i (t,xs)):=by unfold A7;rw [List.map_set]
theorem a0x{a0 a1 a2 a3 a4 a5 a6:O}{kc ke:List (List Key×D)}{l:List O}{i:Nat}:(L3 a0 a1 a2 a3 a4 a5 a6 kc ke ++ l)[9 + i]?=l[i]?:=by
 rw [List.getElem?_append_right (show (L3 a0 a1 a2 a3 a4 a5 a6 kc ke).length <= 9 + i from Nat.le_add_right 9 i),show (L3 a0 a1 a2 a3 a4 a5 a6 kc ke).length=9 from rfl,Nat.add_sub_cancel_left]
theorem a2F{a0 a1 a2 a3 a4 a5 a6:O}{kc ke:List (List Key×D)}{l:List O}{i:Nat}{o:O}:(L3 a0 a1 a2 a3 a4 a5 a6 kc ke ++ l).set (9 + i) o=L3 a0 a1 a2 a3 a4 a5 a6 kc ke ++ l.set i o:=by
 rw [List.set_append_right _ _ (show (L3 a0 a1 a2 a3 a4 a5 a6 kc ke).length <= 9 + i from Nat.le_add_right 9 i),show (L3 a0 a1 a2 a3 a4 a5 a6 kc ke).length=9 from rfl,Nat.add_sub_cancel_left]
def M3{α:Type}(tg:Bool)(a b:α):α:=match tg with | true=>a | false=>b
theorem a5K{h0:Hh}{a0 a1 a2 a3 a4 a5 a6:O}{kc ke:List (List Key×D)}{y:Dyn}(tg:Bool){f fo:Nat->Nat->List D}{g b:Nat}{Q:DK}(d:Dy h0.length y tg (M3 tg kc ke) f)(d2:Dy h0.length y (!tg) (M3 tg ke kc) fo)(hg:g < 6)(hb:b < 6)(hl:(f g b).length < 16777216)
  (q:∀ (i:Nat) (h3:Hh) (xs:List D),h3[i]?=some (.lst xs)->xs.length < 16777216->(∀ v,∃ kc' ke' y',h3.set i (.lst (xs ++ [v]))=h0 ++ (L3 a0 a1 a2 a3 a4 a5 a6 kc' ke' ++ A7 y')/\Dy h0.length y' tg (M3 tg kc' ke') (fun g' b'=>if g'=g/\b'=b then f g b ++ [v] else f g' b')/\Dy h0.length y' (!tg) (M3 tg ke' kc') fo)->Q (.ref i) h3) :
  b8y (.ref (h0.length + M3 tg 7 8)) (.tup [nD g,nD b]) (.ref (h0 ++ (L3 a0 a1 a2 a3 a4 a5 a6 kc ke ++ A7 y)).length) (h0 ++ (L3 a0 a1 a2 a3 a4 a5 a6 kc ke ++ A7 y) ++ [.lst []]) Q:=by
 have ln:(h0 ++ (L3 a0 a1 a2 a3 a4 a5 a6 kc ke ++ A7 y)).length=h0.length + (9 + y.length):=by
  rw [List.length_append,List.length_append,show (L3 a0 a1 a2 a3 a4 a5 a6 kc ke).length=9 from rfl,show (A7 y).length=y.length from List.length_map ..]
 have e0:h0 ++ (L3 a0 a1 a2 a3 a4 a5 a6 kc ke ++ A7 y) ++ [O.lst []]=h0 ++ (L3 a0 a1 a2 a3 a4 a5 a6 kc ke ++ A7 (y ++ [(none,[])])):=by
  rw [S0,List.append_assoc,List.append_assoc]
 have ek:K0 (kN [g,b]) = .tup [nD g,nD b]:=R6 _;rw [ln,e0];have fw:=d.few;show (match (h0 ++ (L3 a0 a1 a2 a3 a4 a5 a6 kc ke ++ A7 (y ++ [(none,[])])))[h0.length + M3 tg 7 8]? with | some (.dT none kvs)=>∃ ks,.tup [nD g,nD b]=K0 ks/\kvs.length < 16777216/\(match D5 kvs ks with | some v=>Q v _ | none=>Q _ _) | _=>False);have e8:(h0 ++ (L3 a0 a1 a2 a3 a4 a5 a6 kc ke ++ A7 (y ++ [(none,[])])))[h0.length + M3 tg 7 8]?=some (.dT none (M3 tg kc ke)):=by rw [B5];cases tg <;> rfl
 rw [e8];refine ⟨kN [g,b],ek.symm,by omega,?_⟩
 rcases d.at_ g b with ⟨h1,h2⟩ | ⟨i,h1,h2⟩
 ·rw [h1];dsimp only;have s8:(h0 ++ (L3 a0 a1 a2 a3 a4 a5 a6 kc ke ++ A7 (y ++ [(none,[])]))).set (h0.length + M3 tg 7 8) (.dT none (M9 (M3 tg kc ke) (kN [g,b]) (.ref (h0.length + (9 + y.length)))))=h0 ++ (L3 a0 a1 a2 a3 a4 a5 a6 (M3 tg (M9 (M3 tg kc ke) (kN [g,b]) (.ref (h0.length + (9 + y.length)))) kc) (M3 tg ke (M9 (M3 tg kc ke) (kN [g,b]) (.ref (h0.length + (9 + y.length))))) ++ A7 (y ++ [(none,[])])):=by rw [L0];cases tg <;> rfl
  rw [s8];refine q _ _ [] ?_ (by decide) fun v=>⟨M3 tg (M9 (M3 tg kc ke) (kN [g,b]) (.ref (h0.length + (9 + y.length)))) kc,M3 tg ke (M9 (M3 tg kc ke) (kN [g,b]) (.ref (h0.length + (9 + y.length)))),y ++ [(some (tg,g,b),[v])],?_,?_,?_⟩
  ·rw [B5,a0x,S0,show y.length=(A7 y).length from (List.length_map ..).symm];exact B3 _ _
  ·rw [L0,a2F,S0,List.nil_append,S0,List.set_append_right _ _ (by rw [show (A7 y).length=y.length from List.length_map ..];exact Nat.le_refl _),show y.length - (A7 y).length=0 by rw [show (A7 y).length=y.length from List.length_map ..];exact Nat.sub_self _];rfl
  ·have:=d.put (xs:=[v]) h1 hg hb
   rw [h2,List.nil_append]
   cases tg <;> exact this
  ·have:=d2.app (some (tg,g,b),[v])
   cases tg <;> exact this
 ·rw [h1];dsimp only;refine q _ _ (f g b) ?_ hl fun v=>⟨kc,ke,(y ++ [(none,[])]).set i (some (tg,g,b),f g b ++ [v]),?_,?_,?_⟩
  ·rw [B5,a0x];unfold A7;rw [List.getElem?_map,R0 h2];rfl
  ·rw [L0,a2F,a7C]
  ·exact (d.app _).set h1
  ·exact (d2.app _).setO (R0 h2) (by cases tg <;> decide)
theorem At.dyn{h0 h:Hh}{C:d9}{zr:P5}{s:Se}(a:At h0 C zr s h){i:Nat}{t:Option (Bool×Nat×Nat)}{xs:List D}(e:zr.y[i]?=some (t,xs)):h[h0.length + (9 + i)]?=some (.lst xs):=by
 obtain ⟨hs,rfl,_⟩:=a.ex;rw [B5];show (L3 _ _ _ _ _ _ _ zr.kc zr.ke ++ A7 zr.y)[9 + i]?=_;rw [a0x];unfold A7;rw [List.getElem?_map,e];rfl
theorem At.calls{h0 h:Hh}{C:d9}{zr:P5}{s:Se}(a:At h0 C zr s h):h[h0.length + 7]?=some (.dT none zr.kc):=by
 obtain ⟨hs,rfl,_⟩:=a.ex;rw [B5];rfl
theorem At.ends{h0 h:Hh}{C:d9}{zr:P5}{s:Se}(a:At h0 C zr s h):h[h0.length + 8]?=some (.dT none zr.ke):=by
 obtain ⟨hs,rfl,_⟩:=a.ex;rw [B5];rfl
theorem a5L{h:Hh}{i g b:Nat}{z:Option Obj}{kvs:List (List Key×D)}{Q:Option D->Prop}(e:h[i]?=some (.dT z kvs))(q:Q (D5 kvs (kN [g,b]))):DL.getD (.ref i) (.tup [nD g,nD b]) h Q:=by
 show (match h[i]? with | some (.dT _ kvs)=>∃ ks,D.tup [nD g,nD b]=K0 ks/\Q (D5 kvs ks) | _=>False);rw [e];exact ⟨kN [g,b],(R6 [g,b]).symm,q⟩
theorem a1A{α:Type}(s:Se)(F:α->List Of)(p:List α)(y:α):offs s ((p ++ [y]).flatMap F)=offs (offs s (p.flatMap F)) (F y):=by rw [List.flatMap_append,a0s,List.flatMap_singleton]
theorem a3p{C:d9}(wf:WF C){s:Se}(m:Mid C s){α:Type}{F:α->List Of}{l p:List α}{y:α}{r:List α}(e:l=p ++ y :: r)(ok:∀ x ∈ l,∀ z ∈ F x,E5 C s z):Mid C (offs s (p.flatMap F))/\∀ z ∈ F y,E5 C (offs s (p.flatMap F)) z:=by
 obtain ⟨m1,s1,_⟩:=m.offs wf (l:=p.flatMap F) fun z hz=>by
  obtain ⟨x,hx,hz⟩:=List.mem_flatMap.mp hz;exact ok x (by rw [e];exact List.mem_append_left _ hx) z hz
 refine ⟨m1,fun z hz=>?_⟩
 have:=ok y (by rw [e];exact List.mem_append_right _ List.mem_cons_self) z hz
 unfold E5 at this ⊢;rw [s1.I];exact this
theorem a5w{C:d9}(wf:WF C){g:Nat}{c:a0j}:∀ {p:List Nat} {s:Se},Mid C s->(∀ b ∈ p,∀ y ∈ s.en g b,∀ z ∈ cbL c y,E5 C s z)->Mid C (p.foldl (gi1 g c) s)/\(p.foldl (gi1 g c) s).I=s.I/\(p.foldl (gi1 g c) s).en=s.en/\∀ g' b',((p.foldl (gi1 g c) s).ca g' b').length <= (s.ca g' b').length + p.length
 |[],s,m,_=>⟨m,rfl,rfl,fun _ _=>Nat.le_refl _⟩
 |b :: p,s,m,ok=>by
  have m1:Mid C { s with ca:=D9 s.ca g b (s.ca g b ++ [c]) }:=⟨m.pap,m.nd,m.ti,m.tl,m.tt,m.td,m.vl,m.cu,m.np,m.pl,m.pn,m.lk⟩
  obtain ⟨m2,st,_⟩:=m1.offs wf (l:=(s.en g b).flatMap (cbL c)) fun z hz=>by
   obtain ⟨y,hy,hz⟩:=List.mem_flatMap.mp hz;exact ok b List.mem_cons_self y hy z hz
  have eI:(gi1 g c s b).I=s.I:=st.I;have ee:(gi1 g c s b).en=s.en:=st.en
  obtain ⟨r1,r2,r3,r4⟩:=a5w wf (p:=p) (s:=gi1 g c s b) m2 fun b' hb y hy z hz=>by
   rw [ee] at hy
   have:=ok b' (List.mem_cons_of_mem _ hb) y hy z hz
   unfold E5 at this ⊢;rw [eI];exact this
  refine ⟨r1,r2.trans eI,r3.trans ee,fun g' b'=>Nat.le_trans (r4 g' b') ?_⟩;have ec:(gi1 g c s b).ca=D9 s.ca g b (s.ca g b ++ [c]):=st.ca;rw [ec,List.length_cons]
  by_cases w:g'=g/\b'=b
  ·obtain ⟨rfl,rfl⟩:=w;rw [C4,List.length_append,List.length_singleton];omega
  ·rw [L1 w];omega
end CM
namespace CM
open PySem L2 DL
theorem tOk.six{t:List Nat}{n m:Nat}(h:tOk t n m)(hm:m <= 6):tOk t n 6:=⟨h.1,fun x hx=>Nat.lt_of_lt_of_le (h.2 x hx) (Nat.pow_le_pow_right (by decide) hm)⟩
theorem a1v{C:d9}(wf:WF C){f n:Nat}{F:Fn}{E:Edge}{g:Nat}{i t o:List Nat}(hF:C[f]?=some F)(hE:F.edges[n]?=some E)(hk:E.k = .call g i t o):∃ G,C[g]?=some G/\tOk i F.facts G.facts/\tOk t G.facts F.facts/\G.facts <= 6/\F.facts <= 6/\g < 6:=by
 have h:=((wf.fn _ F hF).2.2.2.2.2 E (List.mem_of_getElem? hE)).2.2.2.2;rw [hk] at h;obtain ⟨G,h1,h2,h3,_⟩:=h;exact ⟨G,h1,h2,h3,(wf.fn _ G h1).2.2.2.1,(wf.fn _ F hF).2.2.2.1,by have:=(List.getElem?_eq_some_iff.mp h1).1;have:=wf.six;omega⟩
theorem a9J{C:d9}(wf:WF C){s:Se}{n:Nat}{x:Of}{F:Fn}(fu:Full C s)(top:∀ y ∈ (C6 s n x).I,y.2 <= x.1)(hF:C[x.2.1.f]?=some F)(hd:x.2.1.d < F.facts)(ex:x.2.1.p + 1=F.places) :
  ∀ c ∈ (C6 s n x).ca x.2.1.f x.2.1.a,(∃ g i t o n2,c.E.k = .call g i t o/\tOk t n2 6/\x.2.1.d < n2)/\∀ z ∈ cbL c ⟨x.1,x.2.1.d,s.I.length⟩,E5 C (C6 s n x) z:=fun c hc=>by
 have hc:=(fu.rc.ca _ _ _).mp hc;have eNew:EnOf C (s.I ++ [(x.2.1,x.1)]) x.2.1.f x.2.1.a ⟨x.1,x.2.1.d,s.I.length⟩:=⟨x.2.1,x.1,s.I.length,F,B3 _ _,rfl,rfl,hF,ex,rfl⟩
 refine ⟨?_,fun z hz=>⟨a4B hc.mono eNew hz,fun w hw=>?_⟩⟩
 ·obtain ⟨ky,c0,k,j,G,E,i,t,o,e1,e2,e3,e4,e5,e6,rfl⟩:=hc;obtain ⟨G2,h1,h2,h3,h4,h5,_⟩:=a1v wf e2 e3 e5;rw [hF] at h1;cases h1;exact ⟨_,i,t,o,F.facts,e5,h3.six h5,hd⟩
 ·have:=top w hw
  unfold cbL at hz;obtain ⟨e,_,rfl⟩:=List.mem_map.mp hz;show w.2 <= c.cost + x.1;omega
theorem c0V{C:d9}{s:Se}(wf:WF C)(m:Mid C s){g b:Nat}{G:Fn}{y:En}(hG:C[g]?=some G)(h:EnOf C s.I g b y):y.d < G.facts:=by
 obtain ⟨ky,c,k,G',e1,e2,e3,e4,e5,rfl⟩:=h;rw [hG] at e4;cases e4;obtain ⟨f,a,p,d,F,e,hF,h1,h2,h3⟩:=m.kI wf (List.mem_of_getElem? e1);have e:[ky.f,ky.a,ky.p,ky.d]=[f,a,p,d]:=e
 injection e with e1 e
 injection e with e2' e
 injection e with e3' e
 injection e with e4' _
 rw [<- e1,e2,hG] at hF;cases hF;show ky.d < G.facts;rw [e4'];exact h3
theorem a7e{C:d9}(wf:WF C){I0:List (Ky×Nat)}{s0:Se}{ky:Ky}{c:Nat}{ps:List (Edge×Nat)}{s:Se}{F:Fn}{E:Edge}{n:Nat}(P:Part C I0 s0 ky c ps s)(hF:C[ky.f]?=some F)(hE:F.edges[n]?=some E)(hp:E.p=ky.p)(hd:ky.d < F.facts)(top:∀ y ∈ I0 ++ [(ky,c)],y.2 <= c)(en:∀ f a y,y ∈ s0.en f a ↔ EnOf C (I0 ++ [(ky,c)]) f a y)(pl:ps.length <= 100) :
  (∀ z ∈ gpL c ky I0.length n E,E5 C s z)/\Mid C (offs s (gpL c ky I0.length n E))/\∀ g i t o,E.k = .call g i t o->∃ n2,tOk i F.facts 6/\tOk t n2 6/\g < 6/\(∀ b,∀ y ∈ (offs s (gpL c ky I0.length n E)).en g b,y.d < n2)/\(∀ b ∈ k8 (i.getD ky.d 0),∀ y ∈ (offs s (gpL c ky I0.length n E)).en g b,∀ z ∈ cbL ⟨c + E.cost,ky,I0.length,n,E⟩ y,E5 C (offs s (gpL c ky I0.length n E)) z)/\∀ b,((offs s (gpL c ky I0.length n E)).ca g b).length < 10000000:=by
 have og:∀ z ∈ gpL c ky I0.length n E,E5 C s z:=fun z hz=>by
  refine ⟨by rw [P.eI];exact b5d (B3 _ _) hF hE hp hz,fun w hw=>?_⟩;rw [P.eI] at hw
  have:=top w hw
  unfold gpL at hz;obtain ⟨e,_,rfl⟩:=List.mem_map.mp hz;show w.2 <= c + E.cost;omega
 obtain ⟨m2,st,_⟩:=P.mid.offs wf og;refine ⟨og,m2,fun g i t o hk=>?_⟩;obtain ⟨G,h1,h2,h3,h4,h5,h6⟩:=a1v wf hF hE hk;have eI2:=st.I.trans P.eI;have een:(offs s (gpL c ky I0.length n E)).en=s0.en:=st.en.trans P.een;refine ⟨G.facts,h2.six h4,h3.six h5,h6,fun b y hy=>?_,fun b hb y hy z hz=>?_,fun b=>?_⟩
 ·rw [een,en] at hy;refine c0V (b:=b) wf m2 h1 ?_;rw [eI2];exact hy
 ·rw [een,en] at hy;have new:CaOf C (I0 ++ [(ky,c)]) g b ⟨c + E.cost,ky,I0.length,n,E⟩:=⟨ky,c,I0.length,n,F,E,i,t,o,B3 _ _,hF,hE,hp,hk,hb,rfl⟩
  refine ⟨by rw [eI2];exact a4B new hy hz,fun w hw=>?_⟩;rw [eI2] at hw
  have:=top w hw
  unfold cbL at hz;obtain ⟨e,_,rfl⟩:=List.mem_map.mp hz;show w.2 <= c + E.cost + y.cost;omega
 ·rw [st.ca];have h7:=P.cl g b;have h8:=m2.Ifew wf;rw [eI2,List.length_append,List.length_singleton] at h8;omega
theorem b0g(I:List (Ky×Nat))(x:Ky×Nat):fnd (I ++ [x])=fnd I ++ [(x.1.t,I.length)]:=by
 unfold fnd;rw [List.zipIdx_append,List.map_append]
 simp
theorem b2g{I:List (Ky×Nat)}{ky:Ky}{c:Nat}(h:ky ∉ I.map (·.1)):A2 (fnd I) ky.t I.length=fnd (I ++ [(ky,c)]):=by
 rw [b0g];unfold A2;rw [if_neg];intro z;obtain ⟨y,hy,e⟩:=List.any_eq_true.mp z;unfold fnd at hy;obtain ⟨w,hw,rfl⟩:=List.mem_map.mp hy;have e:=of_decide_eq_true e
 have:=List.mem_zipIdx_iff_getElem?.mp hw
 exact h (List.mem_map.mpr ⟨w.1,List.mem_of_getElem? this,Ky.inj e⟩)
theorem a5f(I:List (Ky×Nat)):(fnd I).length=I.length:=by unfold fnd;rw [List.length_map,List.length_zipIdx]
theorem Mid.rlen{C:d9}{s:Se}(m:Mid C s):s.rs.length=s.I.length:=by
 have:=P8 m.pap
 unfold x0 at this;rw [List.length_map,List.length_nil] at this;omega
theorem Mid.kT{C:d9}{s:Se}(wf:WF C)(m:Mid C s){n:Nat}{x:Of}(e:s.T[n]?=some x):∃ F,C[x.2.1.f]?=some F/\x.2.1.a < F.facts/\x.2.1.p < F.places/\x.2.1.d < F.facts:=by
 obtain ⟨F,h1,h2,h3,h4⟩:=S8 wf (J8 wf (cs:=[]) (fun c h=>nomatch h) m.pap) (m.vl n x e);exact ⟨F,h1,h2,h3,h4⟩
theorem b9n{C:d9}(wf:WF C){s:Se}{n:Nat}{x:Of}{F:Fn}(fu:Full C s)(m0:Mid C (C6 s n x))(top:∀ y ∈ (C6 s n x).I,y.2 <= x.1)(hF:C[x.2.1.f]?=some F) :
  Part C s.I (K3 F (C6 s n x) x.1 x.2.1 s.I.length) x.2.1 x.1 [] (K3 F (C6 s n x) x.1 x.2.1 s.I.length)/\∀ f a y,y ∈ (K3 F (C6 s n x) x.1 x.2.1 s.I.length).en f a ↔ EnOf C (s.I ++ [(x.2.1,x.1)]) f a y:=by
 obtain ⟨m1,a1,a2,a3,a4,a5,a6,a7⟩:=a4F wf fu m0 top hF;refine ⟨⟨m1,a1,rfl,rfl,Le.refl _,fun g b y=>?_,fun g b=>?_,(fun _ _ h=>nomatch h),fun g b c y h=>by obtain ⟨_,_,_,_,_,h,_⟩:=h;cases h⟩,a5⟩
 ·rw [a3,fu.rc.ca];exact ⟨.inl,fun h=>h.elim id fun ⟨_,_,_,_,_,h,_⟩=>nomatch h⟩
 ·rw [a3];exact fu.rc.cl g b
end CM
namespace CM
open PySem L2 DL
theorem b7U{I:List (Ky×Nat)}{p r:Ct}{x:Kt×Nat}(e:fnd I=p ++ x :: r):∃ y,I[p.length]?=some y/\x=(y.1.t,p.length)/\I.take (p.length + 1)=I.take p.length ++ [y]:=by
 have h:(fnd I)[p.length]?=some x:=by rw [e,List.getElem?_append_right (Nat.le_refl _),Nat.sub_self];rfl
 unfold fnd at h;rw [List.getElem?_map] at h
 cases q:I.zipIdx[p.length]? with
 |none=>rw [q] at h;cases h
 |some w =>
  rw [q] at h;rw [List.getElem?_zipIdx] at q
  cases q2:I[p.length]? with
  |none=>rw [q2] at q;cases q
  |some y =>
   rw [q2] at q;cases q;refine ⟨y,rfl,?_,?_⟩
   ·cases h;rw [Nat.zero_add]
   ·rw [List.take_add_one,q2];rfl
end CM
namespace K43
open PySem L2 DL CM
local macro_rules | `(tactic| right) => `(tactic| first | decide | omega)
local macro_rules | `(tactic| simp only [VS]) => `(tactic| simp only [List.map_cons, List.map_nil, List.cons_append, List.nil_append, List.length_cons, List.length_nil, List.replicate, Nat.reduceSub, Nat.reduceAdd, Nat.zero_add, Nat.sub_self])
local macro_rules | `(tactic| left) => do
  let n := Lean.mkIdent `N
  let h := Lean.mkIdent `hN
  `(tactic| ((try dsimp only); refine J9 fun $n $h => ?_))
def vvA : String := "j0 c9 b6 dC dOp dUn n5 dTr a3K dOr b2z a2Y c3s c2U dIf v7 m5 c2J y9 o0 a8V dCB j8 b5 d7 u0 dV dTk a4Y b5h c1i V8 a0A T2 dSl M6 u8 a2f c3m c2O a0t B7 c1a c0E c1P E2 C0 v6 a3U c1n D3 L8 c2E c3e c3o c1G c2Y pI pI0 pB0 b9A pIs pIx pEq Y8 H9 a2l a9B b4A b7C c3p m9 b9T W8 pIn b8t M7 b4G C3 a1i p8 b5q c2v c3n c3j c2f a0C a8F a3X a9y a1B a5M a0m a1m c1h c1N c3b c3q a7N a5H a7g reduceIte"
def vvB : String := "b4m a0u c1s c1F c1e c1q c1r c1p c0Y eqS List.map_cons List.map_nil List.cons_append List.nil_append List.length_cons List.length_nil List.replicate List.getElem?_cons_zero List.getElem?_cons_succ List.set_cons_zero List.set_cons_succ Option.getD_some Option.getD_none List.getElem?_nil Bool.false_eq_true Bool.not_true Bool.not_false if_true if_false ite_true ite_false eq_self_iff_true decide_true decide_false Nat.reduceSub Nat.reduceAdd Nat.sub_zero Nat.sub_self Nat.zero_add Option.map_some Option.map_none Option.bind_some Option.bind_none c0p b8X b5Z b9q c1b c1d c0v b9b b5S b9K c1t c1u c1f c1k c1m c1c b9h b6I c0X c1l c0Z c1g c2h c1o b8Y c0o b9d b8Z b9a b9i a5p a6p a6c a4d a4v a5m b1j b2b b3G b0L b1o b1v b3I b4H b4J b1F b2O b4p b3N b5f b4R b1e b3R b3A a8W b1x b1d a6N b0I b0a b1l b2Q b3r a8l b1A b1s b1n b2w b3x a7S b0U b1a c1E c3a c2Z c3l c2w c2W c2t c3k c3i c2P c3c c2u c2L c2C c2F c2M c2V c2s c2H c2K c2T c2Q c2N c2y c2A c3f c3g c2x c2D c3h c2G c2I c2X c3d c2B c2r c2p c2z b2n b2G b2y b7o b3q b1k b0X b1u b1q a9t b7l b4F b3J b3l b3y b6b b3L b0V b1w b1B b1m a7O b8o b4T c2S b8N b8m b9M b6l b4Q b4V b5a b5p b1Q b9t b9g c1j b1Y b4j b7W b2Z b1g b1D b0Z b1E a9V b5B b4X b9w b1b b1y b5e b0T a9h a9b a9r b0s a6S b4I b3h c0J b0Y b1C b4E b1i b0n a8r a8g b0u a6P b4W b2C c0B b1f b1c b5c b1h b0i a8v a8E a9a a6Q b4K b3s b9u b0W b1t b4S b1p a9Z a6Y a7v a8C a6L b5l b2h a6w a9w a9d b2S a9q a6R a6M a6T a6O a5Y b2J b1z c2q b7H b8b b9z b7j b4L b5m b5o b4P b3K c0F b8W c1A b4N b5k b9e b5i b3M b4v b3i b2j b1r b9c b7b Bool.and_self Bool.and_true b2a a1V"
local macro_rules | `(tactic| simp only [VV]) => do
  let as := ((vvA.splitOn " ")).toArray.map fun s => Lean.mkIdent s.toName
  let bs := ((vvB.splitOn " ")).toArray.map fun s => Lean.mkIdent s.toName
  `(tactic| simp only [$[↓$as:ident],*, $[$bs:ident],*])
local macro_rules | `(tactic| simp only [$xs,*, VV]) => do
  let as := ((vvA.splitOn " ")).toArray.map fun s => Lean.mkIdent s.toName
  let bs := ((vvB.splitOn " ")).toArray.map fun s => Lean.mkIdent s.toName
  `(tactic| simp only [$xs,*, $[↓$as:ident],*, $[$bs:ident],*])
local macro_rules | `(tactic| simp only [VV0]) => do
  let as := ((vvA.splitOn " ").filter (fun s => !(["p8"] : List String).contains s)).toArray.map fun s => Lean.mkIdent s.toName
  let bs := ((vvB.splitOn " ").filter (fun s => !(["p8"] : List String).contains s)).toArray.map fun s => Lean.mkIdent s.toName
  `(tactic| simp only [$[↓$as:ident],*, $[$bs:ident],*])
local macro_rules | `(tactic| simp only [$xs,*, VV0]) => do
  let as := ((vvA.splitOn " ").filter (fun s => !(["p8"] : List String).contains s)).toArray.map fun s => Lean.mkIdent s.toName
  let bs := ((vvB.splitOn " ").filter (fun s => !(["p8"] : List String).contains s)).toArray.map fun s => Lean.mkIdent s.toName
  `(tactic| simp only [$xs,*, $[↓$as:ident],*, $[$bs:ident],*])
local macro_rules | `(tactic| simp only [VV1]) => do
  let as := ((vvA.splitOn " ").filter (fun s => !(["a1V"] : List String).contains s)).toArray.map fun s => Lean.mkIdent s.toName
  let bs := ((vvB.splitOn " ").filter (fun s => !(["a1V"] : List String).contains s)).toArray.map fun s => Lean.mkIdent s.toName
  `(tactic| simp only [$[↓$as:ident],*, $[$bs:ident],*])
local macro_rules | `(tactic| simp only [$xs,*, VV1]) => do
  let as := ((vvA.splitOn " ").filter (fun s => !(["a1V"] : List String).contains s)).toArray.map fun s => Lean.mkIdent s.toName
  let bs := ((vvB.splitOn " ").filter (fun s => !(["a1V"] : List String).contains s)).toArray.map fun s => Lean.mkIdent s.toName
  `(tactic| simp only [$xs,*, $[↓$as:ident],*, $[$bs:ident],*])
local macro_rules | `(tactic| simp only [VV2]) => do
  let as := ((vvA.splitOn " ").filter (fun s => !(["pEq"] : List String).contains s)).toArray.map fun s => Lean.mkIdent s.toName
  let bs := ((vvB.splitOn " ").filter (fun s => !(["pEq"] : List String).contains s)).toArray.map fun s => Lean.mkIdent s.toName
  `(tactic| simp only [$[↓$as:ident],*, $[$bs:ident],*])
local macro_rules | `(tactic| simp only [$xs,*, VV2]) => do
  let as := ((vvA.splitOn " ").filter (fun s => !(["pEq"] : List String).contains s)).toArray.map fun s => Lean.mkIdent s.toName
  let bs := ((vvB.splitOn " ").filter (fun s => !(["pEq"] : List String).contains s)).toArray.map fun s => Lean.mkIdent s.toName
  `(tactic| simp only [$xs,*, $[↓$as:ident],*, $[$bs:ident],*])
local macro_rules | `(tactic| simp only [VV3]) => do
  let as := ((vvA.splitOn " ").filter (fun s => !(["a1V", "p8"] : List String).contains s)).toArray.map fun s => Lean.mkIdent s.toName
  let bs := ((vvB.splitOn " ").filter (fun s => !(["a1V", "p8"] : List String).contains s)).toArray.map fun s => Lean.mkIdent s.toName
  `(tactic| simp only [$[↓$as:ident],*, $[$bs:ident],*])
local macro_rules | `(tactic| simp only [$xs,*, VV3]) => do
  let as := ((vvA.splitOn " ").filter (fun s => !(["a1V", "p8"] : List String).contains s)).toArray.map fun s => Lean.mkIdent s.toName
  let bs := ((vvB.splitOn " ").filter (fun s => !(["a1V", "p8"] : List String).contains s)).toArray.map fun s => Lean.mkIdent s.toName
  `(tactic| simp only [$xs,*, $[↓$as:ident],*, $[$bs:ident],*])
def top(i:Nat):Stmt:=PySem.Challenge.pw_callmatch_k43_whole_inner_costs_are_shut.main.body.getD i (.Pass ⟨0,0,0,0⟩)
def K2:Stmt->Nat->Stmt
 |.ClassDef _ _ _ body _ _ _ _ _ _ _,k=>body.getD k (.Pass ⟨0,0,0,0⟩)
 |s,_=>s
abbrev b0d:Stmt:=top 5
abbrev a8o:Stmt:=top 9
abbrev a7B:Stmt:=top 10
abbrev b0J:Stmt:=top 11
abbrev a7w:Stmt:=top 12
abbrev a9e:Stmt:=top 6
abbrev a7Q:Stmt:=top 13
abbrev a8Q:Stmt:=top 24
abbrev a8a:Stmt:=top 25
abbrev a9c:Stmt:=top 31
abbrev a7c:Stmt:=top 26
abbrev a9E:Stmt:=top 30
abbrev a8s:Stmt:=top 27
abbrev a7W:Stmt:=top 28
abbrev a9C:Stmt:=top 29
abbrev a8T:Stmt:=top 23
abbrev a9v:Stmt:=top 22
abbrev a8Z:Stmt:=top 17
abbrev a2C:Stmt:=K2 (top 15) 0
abbrev a6X:Stmt:=top 18
abbrev b0E:Stmt:=top 20
abbrev a8A:Stmt:=top 19
abbrev a2A:Stmt:=K2 (top 15) 1
abbrev a1S:Stmt:=K2 (top 15) 2
abbrev a2o:Stmt:=K2 (top 16) 0
abbrev a1K:Stmt:=K2 (top 34) 0
abbrev a1X:Stmt:=K2 (top 16) 1
abbrev a2v:Stmt:=K2 (top 16) 2
abbrev a2j:Stmt:=K2 (top 34) 1
abbrev U0:Stmt:=K2 (top 34) 3
abbrev a2t:Stmt:=K2 (top 34) 6
abbrev T0:Stmt:=K2 (top 34) 4
abbrev a1W:Stmt:=K2 (top 34) 5
abbrev U6:Stmt:=K2 (top 34) 2
abbrev b0l:Stmt:=top 33
abbrev a7d:Stmt:=top 36
abbrev a7P:Stmt:=top 37
abbrev b0D:Stmt:=top 38
abbrev a8H:Stmt:=top 42
abbrev a8k:Stmt:=top 49
abbrev a9H:Stmt:=top 39
abbrev b0f:Stmt:=top 43
abbrev a7i:Stmt:=top 44
abbrev a9K:Stmt:=top 40
abbrev b0j:Stmt:=top 41
abbrev a7K:Stmt:=top 45
abbrev a9l:Stmt:=top 46
abbrev b0w:Stmt:=top 47
abbrev a9I:Stmt:=top 48
abbrev b0O:Stmt:=top 50
abbrev a8K:Stmt:=top 51
abbrev T8:Stmt:=top 52
theorem b5J:i4 ["mask"] ["mask"] (c7 b0d):=⟨rfl,rfl,rfl,by decide +kernel,rfl,by decide +kernel,by decide +kernel⟩
theorem b6K:i4 ["chart","f"] ["chart","f"] (c7 a8o):=⟨rfl,rfl,rfl,by decide +kernel,rfl,by decide +kernel,by decide +kernel⟩
theorem b6z:i4 ["chart","start"] ["chart","start"] (c7 a7B):=⟨rfl,rfl,rfl,by decide +kernel,rfl,by decide +kernel,by decide +kernel⟩
theorem b8q:i4 ["chart","f","p"] ["chart","f","p"] (c7 b0J):=⟨rfl,rfl,rfl,by decide +kernel,rfl,by decide +kernel,by decide +kernel⟩
theorem b7I:i4 ["edge"] ["edge"] (c7 a7w):=⟨rfl,rfl,rfl,by decide +kernel,rfl,by decide +kernel,by decide +kernel⟩
theorem b8C:i4 ["table","d","e"] ["table","d","e"] (c7 a9e):=⟨rfl,rfl,rfl,by decide +kernel,rfl,by decide +kernel,by decide +kernel⟩
theorem sc_q36:i4 ["chart","here","move","edges","n","edge"] ["chart","here","move"] (c7 a7Q):=⟨rfl,rfl,rfl,by decide +kernel,rfl,by decide +kernel,by decide +kernel⟩
theorem b8k:i4 ["ahead","k","sort"] ["ahead","k","sort"] (c7 a8Q):=⟨rfl,rfl,rfl,by decide +kernel,rfl,by decide +kernel,by decide +kernel⟩
theorem sc_q30:i4 ["chart","row","f","d"] ["chart","row"] (c7 a8a):=⟨rfl,rfl,rfl,by decide +kernel,rfl,by decide +kernel,by decide +kernel⟩
theorem b6j:i4 ["row"] ["row"] (c7 a9c):=⟨rfl,rfl,rfl,by decide +kernel,rfl,by decide +kernel,by decide +kernel⟩
theorem sc_q49:i4 ["chart","start","row","d"] ["chart","start","row"] (c7 a7c):=⟨rfl,rfl,rfl,by decide +kernel,rfl,by decide +kernel,by decide +kernel⟩
theorem sc_q29:i4 ["ahead","row","base","moved","f"] ["ahead","row"] (c7 a9E):=⟨rfl,rfl,rfl,by decide +kernel,rfl,by decide +kernel,by decide +kernel⟩
theorem sc_q35:i4 ["chart","ahead","row","base","f","edge"] ["chart","ahead","row"] (c7 a8s):=⟨rfl,rfl,rfl,by decide +kernel,rfl,by decide +kernel,by decide +kernel⟩
theorem sc_q47:i4 ["chart","ahead","row","base","called","f","edge"] ["chart","ahead","row"] (c7 a7W):=⟨rfl,rfl,rfl,by decide +kernel,rfl,by decide +kernel,by decide +kernel⟩
theorem sc_q40:i4 ["chart","ahead","row","base","edge"] ["chart","ahead","row"] (c7 a9C):=⟨rfl,rfl,rfl,by decide +kernel,rfl,by decide +kernel,by decide +kernel⟩
theorem b8M:i4 ["chart","start","ahead","row"] ["chart","start","ahead","row"] (c7 a8T):=⟨rfl,rfl,rfl,by decide +kernel,rfl,by decide +kernel,by decide +kernel⟩
theorem sc_q34:i4 ["chart","start","rows","told","row","claim"] ["chart","start","rows"] (c7 a9v):=⟨rfl,rfl,rfl,by decide +kernel,rfl,by decide +kernel,by decide +kernel⟩
theorem b7w:i4 ["one","other"] ["one","other"] (c7 a8Z):=⟨rfl,rfl,rfl,by decide +kernel,rfl,by decide +kernel,by decide +kernel⟩
theorem c0f:i4 ["self"] ["self"] (c7 a2C):=⟨rfl,rfl,rfl,by decide +kernel,rfl,by decide +kernel,by decide +kernel⟩
theorem sc_q46:i4 ["heap","k","mover"] ["heap"] (c7 a6X):=⟨rfl,rfl,rfl,by decide +kernel,rfl,by decide +kernel,by decide +kernel⟩
theorem sc_q44:i4 ["heap","k","below"] ["heap","k"] (c7 b0E):=⟨rfl,rfl,rfl,by decide +kernel,rfl,by decide +kernel,by decide +kernel⟩
theorem sc_q48:i4 ["heap","k","mover","below"] ["heap"] (c7 a8A):=⟨rfl,rfl,rfl,by decide +kernel,rfl,by decide +kernel,by decide +kernel⟩
theorem b9F:i4 ["self","cost","thing"] ["self","cost","thing"] (c7 a2A):=⟨rfl,rfl,rfl,by decide +kernel,rfl,by decide +kernel,by decide +kernel⟩
theorem sc_q5:i4 ["self","first","last"] ["self"] (c7 a1S):=⟨rfl,rfl,rfl,by decide +kernel,rfl,by decide +kernel,by decide +kernel⟩
theorem c0h:i4 ["self"] ["self"] (c7 a2o):=⟨rfl,rfl,rfl,by decide +kernel,rfl,by decide +kernel,by decide +kernel⟩
theorem c0y:i4 ["self","chart"] ["self","chart"] (c7 a1K):=⟨rfl,rfl,rfl,by decide +kernel,rfl,by decide +kernel,by decide +kernel⟩
theorem b9Q:i4 ["self","cost","key","row"] ["self","cost","key","row"] (c7 a1X):=⟨rfl,rfl,rfl,by decide +kernel,rfl,by decide +kernel,by decide +kernel⟩
theorem sc_q2:i4 ["self","taken"] ["self"] (c7 a2v):=⟨rfl,rfl,rfl,by decide +kernel,rfl,by decide +kernel,by decide +kernel⟩
theorem sc_q7:i4 ["self","f","function","d"] ["self"] (c7 a2j):=⟨rfl,rfl,rfl,by decide +kernel,rfl,by decide +kernel,by decide +kernel⟩
theorem sc_q11:i4 ["self","cost","key","k","n","edge","sort","e"] ["self","cost","key","k","n","edge"] (c7 U0):=⟨rfl,rfl,rfl,by decide +kernel,rfl,by decide +kernel,by decide +kernel⟩
theorem sc_q8:i4 ["self","call","end","key","edge","e","row"] ["self","call","end"] (c7 a2t):=⟨rfl,rfl,rfl,by decide +kernel,rfl,by decide +kernel,by decide +kernel⟩
theorem sc_q10:i4 ["self","cost","key","k","n","edge","call","b","entered","end"] ["self","cost","key","k","n","edge"] (c7 T0):=⟨rfl,rfl,rfl,by decide +kernel,rfl,by decide +kernel,by decide +kernel⟩
theorem sc_q9:i4 ["self","cost","key","k","end","entered","call"] ["self","cost","key","k"] (c7 a1W):=⟨rfl,rfl,rfl,by decide +kernel,rfl,by decide +kernel,by decide +kernel⟩
theorem sc_q12:i4 ["self","cost","key","row","k","n","edge"] ["self","cost","key","row"] (c7 U6):=⟨rfl,rfl,rfl,by decide +kernel,rfl,by decide +kernel,by decide +kernel⟩
theorem sc_q41:i4 ["chart","search","settled"] ["chart"] (c7 b0l):=⟨rfl,rfl,rfl,by decide +kernel,rfl,by decide +kernel,by decide +kernel⟩
theorem b6Y:i4 ["_law_cell_here","_law_k"] ["_law_cell_here","_law_k"] (c7 a7d):=⟨rfl,rfl,rfl,by decide +kernel,rfl,by decide +kernel,by decide +kernel⟩
theorem b5R:i4 ["_law_script","_law_k"] ["_law_script","_law_k"] (c7 a7P):=⟨rfl,rfl,rfl,by decide +kernel,rfl,by decide +kernel,by decide +kernel⟩
theorem sc_q25:i4 ["_law_number_here","_law_d","_law_facts_here","_law_thin","_law_own","_law_other"] ["_law_number_here","_law_d","_law_facts_here","_law_thin"] (c7 b0D):=⟨rfl,rfl,rfl,by decide +kernel,rfl,by decide +kernel,by decide +kernel⟩
theorem sc_q18:i4 ["_law_left","_law_many","_law_found"] ["_law_left","_law_many"] (c7 a8H):=⟨rfl,rfl,rfl,by decide +kernel,rfl,by decide +kernel,by decide +kernel⟩
theorem b7r:i4 ["_law_mask_here"] ["_law_mask_here"] (c7 a8k):=⟨rfl,rfl,rfl,by decide +kernel,rfl,by decide +kernel,by decide +kernel⟩
theorem b7g:i4 ["_law_cell_here","_law_k","_law_facts_here","_law_others","_law_thin"] ["_law_cell_here","_law_k","_law_facts_here","_law_others","_law_thin"] (c7 a9H):=⟨rfl,rfl,rfl,by decide +kernel,rfl,by decide +kernel,by decide +kernel⟩
theorem b6T:i4 ["_law_script"] ["_law_script"] (c7 b0f):=⟨rfl,rfl,rfl,by decide +kernel,rfl,by decide +kernel,by decide +kernel⟩
theorem b8i:i4 ["_law_left","_law_facts_here","_law_others"] ["_law_left","_law_facts_here","_law_others"] (c7 a7i):=⟨rfl,rfl,rfl,by decide +kernel,rfl,by decide +kernel,by decide +kernel⟩
theorem sc_q27:i4 ["_law_script","_law_cell_here","_law_many","_law_sizes_here","_law_f","_law_number_here","_law_places","_law_facts_here"] ["_law_script"] (c7 a9K):=⟨rfl,rfl,rfl,by decide +kernel,rfl,by decide +kernel,by decide +kernel⟩
theorem sc_q19:i4 ["_law_cell_here","_law_k","_law_sizes_here","_law_thin","_law_number_here","_law_f","_law_places","_law_facts_here","_law_p","_law_q","_law_small","_law_cost","_law_g","_law_others","_law_into","_law_home"] ["_law_cell_here","_law_k","_law_sizes_here","_law_thin"] (c7 b0j):=⟨rfl,rfl,rfl,by decide +kernel,rfl,by decide +kernel,by decide +kernel⟩
theorem sc_q22:i4 ["_law_cell_here","_law_sizes_here","_law_left","_law_f","_law_places","_law_facts_here","_law_head","_law_table_here","_law_g","_law_into","_law_home","_law_over"] ["_law_cell_here","_law_sizes_here"] (c7 a7K):=⟨rfl,rfl,rfl,by decide +kernel,rfl,by decide +kernel,by decide +kernel⟩
theorem sc_q21:i4 ["_law_script","_law_left","_law_sizes_here","_law_f","_law_places","_law_functions","_law_many","_law_cell_here","_law_edge_here"] ["_law_script"] (c7 a9l):=⟨rfl,rfl,rfl,by decide +kernel,rfl,by decide +kernel,by decide +kernel⟩
theorem sc_q16:i4 ["_law_script","_law_sizes_here","_law_functions","_law_most","_law_many","_law_k","_law_f","_law_edge_here"] ["_law_script"] (c7 b0w):=⟨rfl,rfl,rfl,by decide +kernel,rfl,by decide +kernel,by decide +kernel⟩
theorem b8F:i4 ["_law_chart_here"] ["_law_chart_here"] (c7 a9I):=⟨rfl,rfl,rfl,by decide +kernel,rfl,by decide +kernel,by decide +kernel⟩
theorem sc_q13:i4 ["_law_chart_here","_law_costs","_law_key","_law_edge_here","_law_g","_law_found","_law_b","_law_y","_law_inside","_law_e"] ["_law_chart_here","_law_costs","_law_key","_law_edge_here"] (c7 b0O):=⟨rfl,rfl,rfl,by decide +kernel,rfl,by decide +kernel,by decide +kernel⟩
theorem sc_q24:i4 ["_law_chart_here","_law_costs","_law_key","_law_edge_here","_law_due","_law_e","_law_more","_law_there"] ["_law_chart_here","_law_costs","_law_key"] (c7 a8K):=⟨rfl,rfl,rfl,by decide +kernel,rfl,by decide +kernel,by decide +kernel⟩
theorem sc_q43:i4 ["_law_script","_law_chart_here","_law_handed","_law_rows","_law_found","_law_told","_law_costs","_law_key","_law_claim","_law_f","_law_d"] ["_law_script"] (c7 T8):=⟨rfl,rfl,rfl,by decide +kernel,rfl,by decide +kernel,by decide +kernel⟩
def k_MOVE_TABLES:List (Key×Int):=[(.inr "step",4),(.inr "in",5),(.inr "over",7)]
structure Txt(P:Program)(w:World)(K:PySem.W.Frag)(mg:Str->Option Value):Prop where
 b_enumerate:mg "enumerate" = none
 b_int:mg "int" = none
 b_len:mg "len" = none
 b_list:mg "list" = none
 b_max:mg "max" = none
 b_min:mg "min" = none
 b_range:mg "range" = none
 b_sum:mg "sum" = none
 b_tuple:mg "tuple" = none
 c_MOVE_TABLES:∃ a,mg "MOVE_TABLES" = some (.ref a)/\a4R P w K a (k_MOVE_TABLES.map fun p=>(p.1,V.int p.2))
 f_calls:W2 K "Search" "calls"
 f_chart:W2 K "Search" "chart"
 f_ends:W2 K "Search" "ends"
 f_found:W2 K "Search" "found"
 f_heap:W2 K "Queue" "heap"
 f_least:W2 K "Offers" "least"
 f_offers:W2 K "Search" "offers"
 f_puts:W2 K "Queue" "puts"
 f_queue:W2 K "Offers" "queue"
 f_rows:W2 K "Search" "rows"
section
variable {P:Program} {w:World} {K:PySem.W.Frag} {mg:Str->Option Value} {base:Heap}
def a3b:DS:=(m5 (dV (D3 [none,some 0] (v6 (b5 (b5h (b6 0)) d7)) (c9 0) (dTr (dOp a8q (dOp b7P (b6 1) (b6 0)) (dC (.int 1)))) (b6 0))))
def Q4:DSp:=fun ds h Q=>∃ m:Nat,ds=[nD m]/\m < 2 ^ 60/\Q (.lst ((k8 m).map nD)) h
theorem b1Z:∀ ds h Q,Q4 ds h Q->i7 1 a3b ds h Q:=by
 rintro ds h Q ⟨m,rfl,hm,q⟩
 have hb:=a5D hm;simp only [↓a3b,↓i7,↓f7,VV];refine ⟨⟨by right,by right⟩,by rw [s9];omega,?_⟩;rw [o8];refine a4y (fun d=>m.testBit d) nD Src.ok_nil none (fun y hy K k=>?_) (fun y hy _ K k=>?_) ?_
 ·simp only [↓a3b,↓i7,↓f7,VV];refine ⟨by right,?_⟩;rw [show ((0:Int) + (y:Nat)).toNat=y by right,b9S];exact k
 ·simp only [↓a3b,↓i7,↓f7,VV];rw [Int.zero_add];exact k
 ·rw [Int.toNat_natCast];exact q
theorem b8O{f:Addr}{fd:FuncData}(F:Fun K "facts_in" "facts_in" b0d f fd)(T:Txt P w K mg):l9 P w K mg base CX0 1 f fd ["mask"] (spD K 1 Q4) :=
 l8 (k:=0) (b:=a3b) F b5J (fun cdv A outer s H E hr=>by
  refine c8 ?_;refine j2 ?_;refine D4 ?_;exact z8 rfl (N':= ["d","mask"]) (js:=[none,some 0]) ⟨rfl,by decide +kernel,rfl,rfl,rfl⟩ (t8 rfl T.b_range (b4 (b3U (sv 0)) b8)) (fun s0 H0 fp=>⟨(i6 (i:=0) (show (["d","mask"]:List Str).Nodup by decide +kernel) rfl (Or.inl rfl)),(a2u (A8 (d8 a5x (d8 a8N (sv 1) (sv 0)) b7))),(sv 0)⟩)) b1Z
def a6U:DS:=(m5 (dOp a0Y (dOp pIx (dOp pIx (b6 0) (b6 1)) (dC (.int 0))) (dC (.int 1))))
def a1n:DSp:=fun ds h Q=>∃ (c:D) (C:d9) (f:Nat) (F:Fn),ds=[c,nD f]/\ChD h c C/\C[f]?=some F/\Q (.int ((F.places:Int) - 1)) h
theorem b3c:∀ ds h Q,a1n ds h Q->i7 2 a6U ds h Q:=by
 rintro ds h Q ⟨c,C,f,F,rfl,hc,hf,q⟩
 obtain ⟨x,e1,e2⟩:=hc.fn hf;simp only [e1,↓a6U,↓i7,↓f7,VV];exact q
theorem b7t{f:Addr}{fd:FuncData}(F:Fun K "exit_of" "exit_of" a8o f fd)(T:Txt P w K mg):l9 P w K mg base CX0 1 f fd ["chart","f"] (spD K 2 a1n) :=
 l8 (k:=0) (b:=a6U) F b6K (fun cdv A outer s H E hr=>by
  refine c8 ?_;refine j2 ?_;exact d8 L6 (c5 c4 (c5 c4 (sv 0) (sv 1)) b7) b7) b3c
def a2M:DS:=(m5 (dV (D3 [none,some 1] (v6 (b5 (dOp pIx (dOp pIx (b6 0) (dC (.int 0))) (dC (.int 1))) d7)) (c9 0) (dTr (dOp a8q (dOp b7P (b6 1) (b6 0)) (dC (.int 1)))) (b6 0))))
def a5r:DSp:=fun ds h Q=>∃ (c:D) (C:d9) (st:Nat) (F:Fn),ds=[c,nD st]/\ChD h c C/\C[0]?=some F/\F.facts <= 6/\Q (.lst (((List.range F.facts).filter fun d=>st.testBit d).map nD)) h
theorem b2D:∀ ds h Q,a5r ds h Q->i7 2 a2M ds h Q:=by
 rintro ds h Q ⟨c,C,st,F,rfl,hc,hf,h6,q⟩
 obtain ⟨x,e1,e2⟩:=hc.fn hf;have e1:ixD h c (.int 0)=some (.tup [nD F.places,nD F.facts,x]):=e1;simp only [e1,↓a2M,↓i7,↓f7,VV];refine ⟨⟨by right,by right⟩,by rw [s9];omega,?_⟩;rw [o8];refine a4y (fun d=>st.testBit d) nD Src.ok_nil none (fun y hy K k=>?_) (fun y hy _ K k=>?_) ?_
 ·simp only [↓a2M,↓i7,↓f7,VV];refine ⟨by right,?_⟩;rw [show ((0:Int) + (y:Nat)).toNat=y by right,b9S];exact k
 ·simp only [↓a2M,↓i7,↓f7,VV];rw [Int.zero_add];exact k
 ·rw [Int.toNat_natCast];exact q
theorem b7E{f:Addr}{fd:FuncData}(F:Fun K "start_facts" "start_facts" a7B f fd)(T:Txt P w K mg):l9 P w K mg base CX0 1 f fd ["chart","start"] (spD K 2 a5r) :=
 l8 (k:=0) (b:=a2M) F b6z (fun cdv A outer s H E hr=>by
  refine c8 ?_;refine j2 ?_;refine D4 ?_;exact z8 rfl (N':= ["d","start"]) (js:=[none,some 1]) ⟨rfl,by decide +kernel,rfl,rfl,rfl⟩ (t8 rfl T.b_range (b4 (c5 c4 (c5 c4 (sv 0) b7) b7) b8)) (fun s0 H0 fp=>⟨(i6 (i:=0) (show (["d","start"]:List Str).Nodup by decide +kernel) rfl (Or.inl rfl)),(a2u (A8 (d8 a5x (d8 a8N (sv 1) (sv 0)) b7))),(sv 0)⟩)) b2D
def a8P:DS:=(m5 (dV (D3 [none,none,some 2] (a3U (b5 (dOp pIx (dOp pIx (b6 0) (b6 1)) (dC (.int 2))) d7)) (a2f 2 (u8 (c9 0) (u8 (c9 1) M6))) (n5 (dOp (pEq false) (dOp pIx (b6 1) (dC (.int 1))) (b6 2))) (u0 (b5 (b6 0) (b5 (b6 1) d7))))))
def neD(x:Edge×Nat):D:=.tup [nD x.2,eD x.1]
theorem b0c(C:d9){f:Nat}{F:Fn}(hf:C[f]?=some F):atI (C.map fD) (f:Int)=some (fD F):=by rw [atN,List.getElem?_map,hf];rfl
def a5z:DSp:=fun ds h Q=>∃ (C:d9) (f p:Nat) (F:Fn),ds=[cD C,nD f,nD p]/\C[f]?=some F/\F.edges.length <= 100/\Q (.lst ((O5 F p).map neD)) h
theorem b2f:∀ ds h Q,a5z ds h Q->i7 3 a8P ds h Q:=by
 rintro ds h Q ⟨C,f,p,F,rfl,hf,hl,q⟩
 delta i7 a8P;simp only [VS];simp only [cD,b0c C hf,fD,VV];refine ⟨by rw [L5,List.length_map];omega,?_⟩;rw [a1H];refine C8 (fun pr acc δ h'=>(∃ x y,δ=[x,y,some (nD p)])/\acc=(pr.filter fun x=>decide (x.1.p=p)).map neD/\h'=h) ⟨⟨_,_,rfl⟩,rfl,rfl⟩ (fun _ _ _ _ _=>Src.ok_nil) ?_ ?_
 ·rintro pr x r acc δ h' N e ⟨⟨_,_,rfl⟩,rfl,rfl⟩ hN
  obtain ⟨E,k⟩:=x;simp only [c2e,VV];rw [a6q];refine ⟨trivial,?_⟩
  by_cases c:E.p=p
  ·simp only [c,VV];rw [Int.zero_add];refine hN _ _ _ ⟨⟨_,_,rfl⟩,?_,rfl⟩;rw [List.filter_append,List.map_append,List.filter_cons,if_pos (decide_eq_true c)];rfl
  ·simp only [c,VV];refine hN _ _ _ ⟨⟨_,_,rfl⟩,?_,rfl⟩;rw [List.filter_append,List.filter_cons,if_neg (by rw [decide_eq_false c];exact Bool.false_ne_true)];simp
 ·rintro acc δ h' ⟨_,rfl,rfl⟩
  exact q
theorem b6f{f:Addr}{fd:FuncData}(F:Fun K "edges_from" "edges_from" b0J f fd)(T:Txt P w K mg):l9 P w K mg base CX0 1 f fd ["chart","f","p"] (spD K 3 a5z) :=
 l8 (k:=0) (b:=a8P) F b8q (fun cdv A outer s H E hr=>by
  refine c8 ?_;refine j2 ?_;refine D4 ?_;exact z8 rfl (N':= ["n","edge","p"]) (js:=[none,none,some 2]) ⟨rfl,by decide +kernel,rfl,rfl,rfl⟩ (a4u rfl T.b_enumerate (b4 (c5 c4 (c5 c4 (sv 0) (sv 1)) b7) b8)) (fun s0 H0 fp=>⟨(Q8 rfl (p7 (i6 (i:=0) (show (["n","edge","p"]:List Str).Nodup by decide +kernel) rfl (Or.inl rfl)) (p7 (i6 (i:=1) (show (["n","edge","p"]:List Str).Nodup by decide +kernel) rfl (Or.inl rfl)) E4))),(a2u (i9 (z9 hr.units) (c5 c4 (sv 1) b7) (sv 2))),(j4 (b4 (sv 0) (b4 (sv 1) b8)))⟩)) b2f
def a9W:DS:=(m5 (dOp pIx (b6 0) (b8t k_MOVE_TABLES (dIf (n5 (dOp (pEq false) (dOp pIx (b6 0) (dC (.int 0))) (dC (.str "step")))) (dC (.str "step")) (dC (.str "over"))))))
def a4t:DSp:=fun ds h Q=>∃ (E:Edge),ds=[eD E]/\Q (tD (E1 E)) h
theorem b3k:∀ ds h Q,a4t ds h Q->i7 1 a9W ds h Q:=by
 rintro ds h Q ⟨E,rfl,q⟩
 obtain ⟨p,q',c,k⟩:=E;delta i7 a9W;simp only [VS]
 cases k with
 |step t=>simp only [eD,a2T,lkG,k_MOVE_TABLES,VV];exact q
 |call g i b o=>simp only [eD,a2T,lkG,k_MOVE_TABLES,VV];exact q
theorem b5r{f:Addr}{fd:FuncData}(F:Fun K "table_past" "table_past" a7w f fd)(T:Txt P w K mg):l9 P w K mg base CX0 1 f fd ["edge"] (spD K 1 a4t) :=
 l8 (k:=0) (b:=a9W) F b7I (fun cdv A outer s H E hr=>by
  refine c8 ?_;refine j2 ?_;exact c5 c4 (sv 0) (a5C (kvs:=k_MOVE_TABLES) rfl T.c_MOVE_TABLES (a0Q (i9 (z9 hr.units) (c5 c4 (sv 0) b7) k9) k9 k9))) b3k
def a4A:DS:=(m5 (dOp (pIn false) (b6 2) (j8 Q4 (b5 (dOp pIx (b6 0) (b6 1)) d7))))
def a1F:DSp:=fun ds h Q=>∃ (t:List Nat) (n m d:Nat) (e:Int),ds=[tD t,nD d,.int e]/\tOk t n m/\m <= 6/\d < n/\Q (.bl (br t d e)) h
theorem b3Q:∀ ds h Q,a1F ds h Q->i7 3 a4A ds h Q:=by
 rintro ds h Q ⟨t,n,m,d,e,rfl,ht,hm,hd,q⟩
 have hx:=a2S (ht.get hd).2 hm;simp only [a5A h ht hd,↓a4A,↓i7,↓f7,VV];refine ⟨_,rfl,Nat.lt_trans hx (by decide),?_⟩;simp only [↓a4A,↓i7,↓f7,VV];refine ⟨by rw [a1I];rfl,?_⟩;rw [a6u];exact q
theorem b5w{f:Addr}{fd:FuncData}(F:Fun K "brings" "brings" a9e f fd)(T:Txt P w K mg)(C_q39:Cal P w K mg base 1 "facts_in" ["mask"] (spD K 1 Q4)):l9 P w K mg base CX0 2 f fd ["table","d","e"] (spD K 3 a1F) :=
 l8 (k:=1) (b:=a4A) F b8C (fun cdv A outer s H E hr=>by
  refine c8 ?_;refine j2 ?_;exact D6 b4U (sv 2) (f8 C_q39 (hr.mono (by decide)) rfl (b4 (c5 c4 (sv 0) (sv 1)) b8)) rfl) b3Q
def a7A:DS:=(f7 (j0 (dOp pIx (dOp pIx (b6 0) (dOp pIx (b6 1) (dC (.int 0)))) (dC (.int 2))) (c9 3))
  (f7 (j0 (dOp pIx (b6 2) (dC (.int 1))) (c9 4))
  (f7 (v7 (b2z (n5 (V8 pLe Y8 (dC (.int 0)) (b6 4) (dCB H9 (b5 (b6 3) d7))))) (m5 (dC .non)) o0)
  (f7 (j0 (dOp pIx (b6 3) (b6 4)) (c9 5))
  (f7 (v7 (dOr (n5 (dOp (pEq true) (dOp pIx (b6 5) (dC (.int 0))) (dIf (n5 (dOp (pEq false) (dOp pIx (b6 2) (dC (.int 0))) (dC (.str "step")))) (dC (.str "step")) (dC (.str "call"))))) (n5 (dOp (pEq true) (dOp pIx (b6 5) (dC (.int 1))) (dOp pIx (b6 1) (dC (.int 1)))))) (m5 (dC .non)) o0)
  (m5 (dIf (dTr (j8 a1F (b5 (dOp pIx (b6 5) (b8t k_MOVE_TABLES (dOp pIx (b6 2) (dC (.int 0))))) (b5 (dOp pIx (b6 1) (dC (.int 2))) (b5 (dOp pIx (b6 2) (dC (.int 2))) d7))))) (b6 5) (dC .non))))))))
def Y0:DSp:=fun ds h Q=>∃ (c:D) (C:d9) (f p d:Nat) (F:Fn) (w:Mv) (n e:Int),ds=[c,.tup [nD f,nD p,nD d],.tup [.str w.w,.int n,.int e]]/\ChD h c C/\WF C/\C[f]?=some F/\d < F.facts/\Q (oD eD (n4 C f p d w n e)) h
theorem b2Y:∀ ds h Q,Y0 ds h Q->i7 6 a7A ds h Q:=by
 rintro ds h Q ⟨c,C,f,p,d,F,w,n,e,rfl,hc,wf,hf,hd,q⟩
 obtain ⟨x,e1,e2⟩:=hc.fn hf;have hw:=wf.fn f F hf;delta i7 a7A;simp only [VS];left;simp only [e1,VV];subst hN;left;simp only [VV];subst hN;left
 by_cases h0:0 <= n
 ·by_cases h1:n < F.edges.length
  ·have hl:n.toNat < F.edges.length:=by right
   obtain ⟨E,hE⟩:∃ E,F.edges[n.toNat]?=some E:=⟨_,List.getElem?_eq_getElem hl⟩
   have eE:F1 C f n=some E:=by unfold F1;rw [if_pos h0,hf];exact hE
   have ax:atI (F.edges.map eD) n=some (eD E):=by rw [b0v h0,List.getElem?_map,hE];rfl
   obtain ⟨o1,o2,o3,o4,o5⟩:=hw.2.2.2.2.2 E (List.mem_of_getElem? hE);have tk:n4 C f p d w n e=if (E.isStep == (w == .step))=true/\E.p=p/\br (E.tab w) d e=true then some E else none:=by unfold n4;rw [eE];rfl
   rw [tk] at q;clear tk eE hE hl;simp only [y0 e2,List.length_map,h0,h1,VV];subst hN;left;simp only [A6 e2,ax,VV];clear ax e1 e2 h0 h1;subst hN;left;obtain ⟨ep,eq,ec,ek⟩:=E;have hpp:((ep:Int) == (p:Int))=decide (ep=p):=by first | exact a6q _ _ | exact a9g _ _ | exact beqS _ _
   cases w <;> cases ek
   case step.step t =>
    simp only [eD,Mv.w,hpp,VV]
    by_cases hp:ep=p
    ·subst hp;simp only [VV];subst hN;simp only [Mv.w,a2T,lkG,k_MOVE_TABLES,VV];refine ⟨t,_,_,d,e,rfl,o5,hw.2.2.2.1,hd,?_⟩
     by_cases hb:br t d e=true
     ·rw [if_pos ⟨rfl,rfl,hb⟩] at q;simp only [hb,VV];exact q
     ·rw [if_neg fun z=>hb z.2.2] at q;simp only [hb,VV];exact q
    ·rw [if_neg fun z=>hp z.2.1] at q;simp only [hp,VV];exact q
   case over.call g i b o =>
    simp only [eD,Mv.w,hpp,VV]
    by_cases hp:ep=p
    ·subst hp;simp only [VV];subst hN;obtain ⟨G,hG,t1,t2,t3⟩:=o5;simp only [Mv.w,a2T,lkG,k_MOVE_TABLES,VV];refine ⟨o,_,_,d,e,rfl,t3,hw.2.2.2.1,hd,?_⟩
     by_cases hb:br o d e=true
     ·rw [if_pos ⟨rfl,rfl,hb⟩] at q;simp only [hb,VV];exact q
     ·rw [if_neg fun z=>hb z.2.2] at q;simp only [hb,VV];exact q
    ·rw [if_neg fun z=>hp z.2.1] at q;simp only [hp,VV];exact q
   case inn.call g i b o =>
    simp only [eD,Mv.w,hpp,VV]
    by_cases hp:ep=p
    ·subst hp;simp only [VV];subst hN;obtain ⟨G,hG,t1,t2,t3⟩:=o5;simp only [Mv.w,a2T,lkG,k_MOVE_TABLES,VV];refine ⟨i,_,_,d,e,rfl,t1,(wf.fn g G hG).2.2.2.1,hd,?_⟩
     by_cases hb:br i d e=true
     ·rw [if_pos ⟨rfl,rfl,hb⟩] at q;simp only [hb,VV];exact q
     ·rw [if_neg fun z=>hb z.2.2] at q;simp only [hb,VV];exact q
    ·rw [if_neg fun z=>hp z.2.1] at q;simp only [hp,VV];exact q
   all_goals
    simp only [eD,Mv.w,VV];rw [if_neg fun z=>Bool.false_ne_true z.1] at q;exact q
  ·have eE:n4 C f p d w n e=none:=by
    unfold n4 F1;rw [if_pos h0,hf];show (F.edges[n.toNat]?).bind _=none;rw [List.getElem?_eq_none (by right)];rfl
   rw [eE] at q;simp only [y0 e2,List.length_map,h0,h1,VV];exact q
 ·have eE:n4 C f p d w n e=none:=by unfold n4 F1;rw [if_neg h0];rfl
  rw [eE] at q;simp only [y0 e2,List.length_map,h0,VV];exact q
theorem b6y{f:Addr}{fd:FuncData}(F:Fun K "edge_taken" "edge_taken" a7Q f fd)(T:Txt P w K mg)(C_q31:Cal P w K mg base 2 "brings" ["table","d","e"] (spD K 3 a1F)):l9 P w K mg base CX0 3 f fd ["chart","here","move"] (spD K 3 Y0) :=
 l8 (k:=2) (b:=a7A) F sc_q36 (fun cdv A outer s H E hr=>by
  refine b9 ?_ ?_
  ·refine i5 (i:=3) sc_q36.nd rfl (Or.inl rfl) ?_;exact c5 c4 (c5 c4 (sv 0) (c5 c4 (sv 1) b7)) b7
  refine b9 ?_ ?_
  ·exact i5 (i:=4) sc_q36.nd rfl (Or.inl rfl) (c5 c4 (sv 2) b7)
  refine b9 ?_ ?_
  ·refine v8 ?_ (c8 (j2 n8)) j9;exact a3P (R9 a4L F0 b7 (sv 4) (k7 y6 rfl T.b_len PySem.boot_len (b4 (sv 3) b8)))
  refine b9 ?_ ?_
  ·exact i5 (i:=5) sc_q36.nd rfl (Or.inl rfl) (c5 c4 (sv 3) (sv 4))
  refine b9 ?_ ?_
  ·refine v8 ?_ (c8 (j2 n8)) j9;exact W7 (T4 (i9 (L9 hr.units) (c5 c4 (sv 5) b7) (a0Q (i9 (z9 hr.units) (c5 c4 (sv 2) b7) k9) k9 k9)) (Q5 (i9 (L9 hr.units) (c5 c4 (sv 5) b7) (c5 c4 (sv 1) b7))))
  refine c8 ?_;refine j2 ?_;exact a0Q (A8 (f8 C_q31 (hr.mono (by decide)) rfl (b4 (c5 c4 (sv 5) (a5C (kvs:=k_MOVE_TABLES) rfl T.c_MOVE_TABLES (c5 c4 (sv 2) b7))) (b4 (c5 c4 (sv 1) b7) (b4 (c5 c4 (sv 2) b7) b8))))) (sv 5) n8) b2Y
def a9G:DS:=(f7 (v7 (a3K (n5 (V8 pLe Y8 (dC (.int 0)) (b6 1) (dCB H9 (b5 (b6 0) d7)))) (n5 (dOp (pEq false) (dOp pIx (dOp pIx (b6 0) (b6 1)) (dC (.int 0))) (b6 2)))) (m5 (dOp pIx (b6 0) (b6 1))) o0)
  (m5 (dC .non)))
def isW:Clm->Bool | .within _ _ _ _ _=>true | .at _ _ _ _=>false
def bw:Bool->Str | true=> "within" | false=> "at"
def u7(cs:List Clm)(k:Int)(w:Bool):Option Clm:=(i8 cs k).bind fun c=>if isW c=w then some c else none
def M0:DSp:=fun ds h Q=>∃ (a:D) (cs:List Clm) (k:Int) (w:Bool),ds=[a,.int k,.str (bw w)]/\A4 h a=some (cs.map clD)/\Q (oD clD (u7 cs k w)) h
theorem b3V:∀ ds h Q,M0 ds h Q->i7 3 a9G ds h Q:=by
 rintro ds h Q ⟨a,cs,k,w,rfl,ha,q⟩
 delta i7 a9G;simp only [VS];left
 by_cases h0:0 <= k
 ·by_cases h1:k < cs.length
  ·have hl:k.toNat < cs.length:=by right
   obtain ⟨c,hE⟩:∃ E,cs[k.toNat]?=some E:=⟨_,List.getElem?_eq_getElem hl⟩
   have ax:atI (cs.map clD) k=some (clD c):=by rw [b0v h0,List.getElem?_map,hE];rfl
   have eq:u7 cs k w=if isW c=w then some c else none:=by unfold u7 i8;rw [if_pos h0,hE];rfl
   rw [eq] at q
   cases c <;> cases w
   all_goals simp only [y0 ha,List.length_map,h0,h1,A6 ha,ax,clD,bw,VV]
   all_goals first | exact q | (subst hN;exact q)
  ·have eq:u7 cs k w=none:=by unfold u7 i8;rw [if_pos h0,List.getElem?_eq_none (by right)];rfl
   rw [eq] at q;simp only [y0 ha,List.length_map,h0,h1,VV];subst hN;exact q
 ·have eq:u7 cs k w=none:=by unfold u7 i8;rw [if_neg h0];rfl
  rw [eq] at q;simp only [y0 ha,List.length_map,h0,VV];subst hN;exact q
theorem U7{cs:List Clm}{k:Int}{c:Clm}(h:u7 cs k true=some c):∃ f a p d x,c = .within f a p d x/\i8 cs k=some (.within f a p d x):=by
 unfold u7 at h
 cases q:i8 cs k with
 |none=>rw [q] at h;cases h
 |some e =>
  rw [q] at h
  cases e with
  |within f a p d x=>cases h;exact ⟨f,a,p,d,x,rfl,rfl⟩
  |«at» f p d x=>cases h
theorem a3m{cs:List Clm}{k:Int}{c:Clm}(h:u7 cs k false=some c):∃ f p d x,c = .at f p d x/\i8 cs k=some (.at f p d x):=by
 unfold u7 at h
 cases q:i8 cs k with
 |none=>rw [q] at h;cases h
 |some e =>
  rw [q] at h
  cases e with
  |within f a p d x=>cases h
  |«at» f p d x=>cases h;exact ⟨f,p,d,x,rfl,rfl⟩
theorem P0{cs:List Clm}{k:Int}(h:u7 cs k true=none):∀ f a p d x,i8 cs k ≠ some (.within f a p d x):=fun f a p d x z=>by
 unfold u7 at h;rw [z] at h;cases h
theorem a1r{cs:List Clm}{k:Int}(h:u7 cs k false=none):∀ f p d x,i8 cs k ≠ some (.at f p d x):=fun f p d x z=>by
 unfold u7 at h;rw [z] at h;cases h
theorem b6t{f:Addr}{fd:FuncData}(F:Fun K "claim_ahead" "claim_ahead" a8Q f fd)(T:Txt P w K mg):l9 P w K mg base CX0 1 f fd ["ahead","k","sort"] (spD K 3 M0) :=
 l8 (k:=0) (b:=a9G) F b8k (fun cdv A outer s H E hr=>by
  refine b9 ?_ (c8 (j2 n8));refine v8 ?_ (c8 (j2 (c5 c4 (sv 0) (sv 1)))) j9;exact W7 (V7 (R9 a4L F0 b7 (sv 1) (k7 y6 rfl T.b_len PySem.boot_len (b4 (sv 0) b8))) (P4 (i9 (z9 hr.units) (c5 c4 (c5 c4 (sv 0) (sv 1)) b7) (sv 2))))) b3V
def a7a:DS:=(f7 (j0 (dOp pIx (b6 1) (dC (.int 1))) (c9 2))
  (f7 (j0 (dOp pIx (b6 1) (dC (.int 2))) (c9 3))
  (f7 (v7 (a3K (n5 (V8 pLe Y8 (dC (.int 0)) (b6 2) (dCB H9 (b5 (b6 0) d7)))) (n5 (V8 pLe Y8 (dC (.int 0)) (b6 3) (dOp pIx (dOp pIx (b6 0) (b6 2)) (dC (.int 1)))))) (m5 (u0 (b5 (dC (.str "within")) (b5 (b6 2) (b5 (b6 3) (b5 (dC (.int 0)) (b5 (b6 3) (b5 (dC (.int 0)) d7)))))))) o0)
  (m5 (dC .non)))))
def a5n:DSp:=fun ds h Q=>∃ (c:D) (C:d9) (cs:List Clm) (st:Nat) (f d:Int),ds=[c,rD (.begin f d)]/\ChD h c C/\Q (oD clD (f9 C st cs (.begin f d))) h
theorem b4u:∀ ds h Q,a5n ds h Q->i7 4 a7a ds h Q:=by
 rintro ds h Q ⟨c,C,cs,st,f,d,rfl,hc,q⟩
 delta i7 a7a;simp only [VS];left;simp only [rD,VV];subst hN;left;simp only [VV];subst hN;left
 by_cases h0:0 <= f
 ·by_cases h1:f < C.length
  ·have hl:f.toNat < C.length:=by right
   obtain ⟨F,hF⟩:∃ E,C[f.toNat]?=some E:=⟨_,List.getElem?_eq_getElem hl⟩
   obtain ⟨x,e1,e2⟩:=hc.fn hF
   have e1:ixD h c (.int f)=some (.tup [nD F.places,nD F.facts,x]):=by
    rw [show nD f.toNat = .int f from congrArg D.int (by right)] at e1;exact e1
   by_cases h2:0 <= d
   ·by_cases h3:d < F.facts
    ·have eq:f9 C st cs (.begin f d)=some (.within f.toNat d.toNat 0 d.toNat 0):=by
      show (if 0 <= f/\0 <= d then (C[f.toNat]?).bind fun F=>if d < F.facts then some (Clm.within f.toNat d.toNat 0 d.toNat 0) else none else none)=_;rw [if_pos ⟨h0,h2⟩,hF];exact if_pos h3
     rw [eq] at q;simp only [hc.len,h0,h1,e1,h2,h3,VV];have q:Q (.tup [.str "within",.int ((f.toNat:Nat):Int),.int ((d.toNat:Nat):Int),nD 0,.int ((d.toNat:Nat):Int),nD 0]) h:=q;rw [Int.toNat_of_nonneg h0,Int.toNat_of_nonneg h2] at q;exact q
    ·have eq:f9 C st cs (.begin f d)=none:=by
      show (if 0 <= f/\0 <= d then (C[f.toNat]?).bind fun F=>if d < F.facts then some (Clm.within f.toNat d.toNat 0 d.toNat 0) else none else none)=_;rw [if_pos ⟨h0,h2⟩,hF];exact if_neg h3
     rw [eq] at q;simp only [hc.len,h0,h1,e1,h2,h3,VV];subst hN;exact q
   ·have eq:f9 C st cs (.begin f d)=none:=if_neg (fun z=>h2 z.2);rw [eq] at q;simp only [hc.len,h0,h1,e1,h2,VV];subst hN;exact q
  ·have eq:f9 C st cs (.begin f d)=none:=by
    show (if 0 <= f/\0 <= d then (C[f.toNat]?).bind fun F=>if d < F.facts then some (Clm.within f.toNat d.toNat 0 d.toNat 0) else none else none)=_;rw [List.getElem?_eq_none (by right)];split <;> rfl
   rw [eq] at q;simp only [hc.len,h0,h1,VV];subst hN;exact q
 ·have eq:f9 C st cs (.begin f d)=none:=if_neg (fun z=>h0 z.1);rw [eq] at q;simp only [hc.len,h0,VV];subst hN;exact q
theorem b5y{f:Addr}{fd:FuncData}(F:Fun K "begin_claim" "begin_claim" a8a f fd)(T:Txt P w K mg):l9 P w K mg base CX0 1 f fd ["chart","row"] (spD K 2 a5n) :=
 l8 (k:=0) (b:=a7a) F sc_q30 (fun cdv A outer s H E hr=>by
  refine b9 ?_ ?_
  ·exact i5 (i:=2) sc_q30.nd rfl (Or.inl rfl) (c5 c4 (sv 1) b7)
  refine b9 ?_ ?_
  ·exact i5 (i:=3) sc_q30.nd rfl (Or.inl rfl) (c5 c4 (sv 1) b7)
  refine b9 ?_ (c8 (j2 n8));refine v8 ?_ ?_ j9
  ·exact W7 (V7 (R9 a4L F0 b7 (sv 2) (k7 y6 rfl T.b_len PySem.boot_len (b4 (sv 0) b8))) (P4 (R9 a4L F0 b7 (sv 3) (c5 c4 (c5 c4 (sv 0) (sv 2)) b7))))
  refine c8 ?_;refine j2 ?_;refine j4 (n:=6) ?_;exact b4 k9 (b4 (sv 2) (b4 (sv 3) (b4 b7 (b4 (sv 3) (b4 b7 b8)))))) b4u
def b5n:DS:=(m5 (u0 (b5 (dOp pIx (b6 0) (dC (.int 0))) (b5 (dOp pIx (b6 0) (dC (.int 2))) (b5 (dOp pIx (b6 0) (dC (.int 3))) d7)))))
def a1h:DSp:=fun ds h Q=>∃ (a b c d:D),ds=[.tup [a,b,c,d]]/\Q (.tup [a,c,d]) h
theorem b4w:∀ ds h Q,a1h ds h Q->i7 1 b5n ds h Q:=by
 rintro ds h Q ⟨a,b,c,d,rfl,q⟩
 exact q
theorem b8s{f:Addr}{fd:FuncData}(F:Fun K "move_of" "move_of" a9c f fd)(T:Txt P w K mg):l9 P w K mg base CX0 1 f fd ["row"] (spD K 1 a1h) :=
 l8 (k:=0) (b:=b5n) F b6j (fun cdv A outer s H E hr=>by
  refine c8 ?_;refine j2 ?_;refine j4 (n:=3) ?_;refine b4 (c5 c4 (sv 0) b7) ?_;exact b4 (c5 c4 (sv 0) b7) (b4 (c5 c4 (sv 0) b7) b8)) b4w
def a4I:DS:=(f7 (j0 (dOp pIx (b6 2) (dC (.int 1))) (c9 3))
  (m5 (dIf (n5 (dOp (pIn false) (b6 3) (j8 a5r (b5 (b6 0) (b5 (b6 1) d7))))) (u0 (b5 (dC (.str "at")) (b5 (dC (.int 0)) (b5 (dC (.int 0)) (b5 (b6 3) (b5 (dC (.int 0)) d7)))))) (dC .non))))
theorem a3R(n st:Nat)(e:Int):inF (.int e) (((List.range n).filter fun d=>st.testBit d).map nD)=(decide (0 <= e) && (decide (e < n) && st.testBit e.toNat)):=by
 rw [Bool.eq_iff_iff];unfold inF;rw [List.any_map,List.any_eq_true,Bool.and_eq_true,Bool.and_eq_true,decide_eq_true_iff,decide_eq_true_iff]
 constructor
 ·rintro ⟨x,hx,he⟩
  have he:(x:Int)=e:=by simpa [eqF] using he
  subst he;rw [List.mem_filter,List.mem_range] at hx;exact ⟨by right,by right,by simpa using hx.2⟩
 ·rintro ⟨h0,h1,hb⟩
  exact ⟨e.toNat,List.mem_filter.mpr ⟨List.mem_range.mpr (by right),hb⟩,by simp [eqF];omega⟩
def a5J:DSp:=fun ds h Q=>∃ (c:D) (C:d9) (cs:List Clm) (st:Nat) (d:Int),ds=[c,nD st,rD (.start d)]/\ChD h c C/\WF C/\Q (oD clD (f9 C st cs (.start d))) h
theorem b4d:∀ ds h Q,a5J ds h Q->i7 4 a4I ds h Q:=by
 rintro ds h Q ⟨c,C,cs,st,d,rfl,hc,wf,q⟩
 obtain ⟨F,hF⟩:∃ E,C[0]?=some E:=⟨_,List.getElem?_eq_getElem wf.one⟩
 simp only [rD,↓a4I,↓i7,↓f7,VV];refine ⟨c,C,st,F,rfl,hc,hF,(wf.fn 0 F hF).2.2.2.1,?_⟩;simp only [↓a4I,↓i7,↓f7,VV];refine ⟨by rw [a1I];rfl,?_⟩;rw [a3R]
 have eq:f9 C st cs (.start d)=if (decide (0 <= d) && (decide (d < F.facts) && st.testBit d.toNat))=true then some (.at 0 0 d.toNat 0) else none:=by
  show (if 0 <= d then (C[0]?).bind fun F=>if d < F.facts/\st.testBit d.toNat=true then some (Clm.at 0 0 d.toNat 0) else none else none)=_;rw [hF]
  by_cases h0:0 <= d
  ·by_cases h1:d < F.facts <;> simp [h0,h1]
  ·simp [h0]
 rw [eq] at q;refine M8 (fun z=>?_) (fun z=>?_)
 ·rw [if_pos z] at q;have h0:0 <= d:=by rw [Bool.and_eq_true] at z;exact of_decide_eq_true z.1
  have q:Q (.tup [.str "at",nD 0,nD 0,.int ((d.toNat:Nat):Int),nD 0]) h:=q;rw [Int.toNat_of_nonneg h0] at q;exact q
 ·rw [if_neg (by rw [z];exact Bool.false_ne_true)] at q;exact q
theorem b6L{f:Addr}{fd:FuncData}(F:Fun K "start_claim" "start_claim" a7c f fd)(T:Txt P w K mg)(C_q50:Cal P w K mg base 1 "start_facts" ["chart","start"] (spD K 2 a5r)):l9 P w K mg base CX0 2 f fd ["chart","start","row"] (spD K 3 a5J) :=
 l8 (k:=1) (b:=a4I) F sc_q49 (fun cdv A outer s H E hr=>by
  refine b9 ?_ ?_
  ·exact i5 (i:=3) sc_q49.nd rfl (Or.inl rfl) (c5 c4 (sv 2) b7)
  refine c8 ?_;refine j2 ?_;exact a0Q (i9 b4U (sv 3) (f8 C_q50 (hr.mono (by decide)) rfl (b4 (sv 0) (b4 (sv 1) b8))) rfl) (j4 (b4 k9 (b4 b7 (b4 b7 (b4 (sv 3) (b4 b7 b8)))))) n8) b4d
def a9u:DS:=(f7 (j0 (j8 M0 (b5 (b6 0) (b5 (dOp pIx (b6 1) (dC (.int 1))) (b5 (dC (.str "at")) d7)))) (c9 2))
  (f7 (j0 (j8 M0 (b5 (b6 0) (b5 (dOp pIx (b6 1) (dC (.int 2))) (b5 (dC (.str "within")) d7)))) (c9 3))
  (f7 (v7 (dOr (n5 (dOp (pIs false) (b6 2) (dC .non))) (n5 (dOp (pIs false) (b6 3) (dC .non)))) (m5 (dC .non)) o0)
  (f7 (j0 (dOp pIx (b6 2) (dC (.int 1))) (c9 4))
  (f7 (v7 (dOr (n5 (dOp (pEq true) (dOp pIx (b6 2) (dC (.int 2))) (dC (.int 0)))) (dOr (n5 (dOp (pEq true) (dOp pIx (b6 3) (dC (.int 1))) (b6 4))) (n5 (dOp (pEq true) (dOp pIx (b6 3) (dC (.int 2))) (dOp pIx (b6 2) (dC (.int 3))))))) (m5 (dC .non)) o0)
  (m5 (u0 (b5 (dC (.str "at")) (b5 (b6 4) (b5 (dOp pIx (b6 3) (dC (.int 3))) (b5 (dOp pIx (b6 3) (dC (.int 4))) (b5 (dOp m9 (dOp pIx (b6 2) (dC (.int 4))) (dOp pIx (b6 3) (dC (.int 5)))) d7))))))))))))
def a4G:DSp:=fun ds h Q=>∃ (a:D) (C:d9) (cs:List Clm) (st:Nat) (k j:Int),ds=[a,rD (.along k j)]/\A4 h a=some (cs.map clD)/\Q (oD clD (f9 C st cs (.along k j))) h
theorem b2U:∀ ds h Q,a4G ds h Q->i7 5 a9u ds h Q:=by
 rintro ds h Q ⟨a,C,cs,st,k,j,rfl,ha,q⟩
 delta i7 a9u;simp only [VS];left;simp only [rD,VV];refine ⟨a,cs,k,false,rfl,ha,?_⟩;subst hN;left;simp only [VV];refine ⟨a,cs,j,true,rfl,ha,?_⟩;subst hN;left
 cases hb:u7 cs k false with
 |none =>
  have eq:f9 C st cs (.along k j)=none:=by
   have hn:=a1r hb;show (match i8 cs k,i8 cs j with | some (.at f p a c),some (.within g b q d c')=>_ | _,_=>none)=none
   cases q2:i8 cs k with
   |none=>rfl
   |some x =>
    cases x with
    |within f a p d c=>rfl
    |«at» f p d c=>exact absurd q2 (hn f p d c)
  rw [eq] at q;simp only [oD,VV];exact q
 |some b =>
  obtain ⟨f,p,d,x,rfl,hk⟩:=a3m hb
  cases hb2:u7 cs j true with
  |none =>
   have eq:f9 C st cs (.along k j)=none:=by
    have hn:=P0 hb2;show (match i8 cs k,i8 cs j with | some (.at f p a c),some (.within g b q d c')=>_ | _,_=>none)=none;rw [hk]
    cases q2:i8 cs j with
    |none=>rfl
    |some x =>
     cases x with
     |within f a p d c=>exact absurd q2 (hn f a p d c)
     |«at» f p d c=>rfl
   rw [eq] at q;simp only [oD,clD,VV];exact q
  |some b2 =>
   obtain ⟨g,b,q',d',x',rfl,hk2⟩:=U7 hb2
   have eq:f9 C st cs (.along k j)=if p=0/\g=f/\b=d then some (.at f q' d' (x + x')) else none:=by
    show (match i8 cs k,i8 cs j with | some (.at f p a c),some (.within g b q d c')=>_ | _,_=>none)=_;rw [hk,hk2]
   rw [eq] at q;have e1:((p:Int) == 0)=decide (p=0):=by rw [Bool.eq_iff_iff];simp
   have e2:((g:Int) == (f:Int))=decide (g=f):=by first | exact a6q _ _ | exact a9g _ _ | exact beqS _ _
   have e3:((b:Int) == (d:Int))=decide (b=d):=by first | exact a6q _ _ | exact a9g _ _ | exact beqS _ _
   simp only [oD,clD,VV];subst hN;left;simp only [VV];subst hN;left;simp only [e1,e2,e3,VV]
   by_cases h1:p=0
   ·by_cases h2:g=f
    ·by_cases h3:b=d
     ·rw [if_pos ⟨h1,h2,h3⟩] at q;simp only [h1,h2,h3,VV];subst hN;simp only [VV];have q:Q (.tup [.str "at",nD f,nD q',nD d',.int ((x + x':Nat):Int)]) h:=q;rw [Int.natCast_add] at q;exact q
     ·rw [if_neg (fun z=>h3 z.2.2)] at q;simp only [h1,h2,h3,VV];exact q
    ·rw [if_neg (fun z=>h2 z.2.1)] at q;simp only [h1,h2,VV];exact q
   ·rw [if_neg (fun z=>h1 z.1)] at q;simp only [h1,VV];exact q
theorem b8K{f:Addr}{fd:FuncData}(F:Fun K "along_claim" "along_claim" a9E f fd)(T:Txt P w K mg)(C_q32:Cal P w K mg base 1 "claim_ahead" ["ahead","k","sort"] (spD K 3 M0)):l9 P w K mg base CX0 2 f fd ["ahead","row"] (spD K 2 a4G) :=
 l8 (k:=1) (b:=a9u) F sc_q29 (fun cdv A outer s H E hr=>by
  refine b9 ?_ ?_
  ·refine i5 (i:=2) sc_q29.nd rfl (Or.inl rfl) ?_;exact f8 C_q32 (hr.mono (by decide)) rfl (b4 (sv 0) (b4 (c5 c4 (sv 1) b7) (b4 k9 b8)))
  refine b9 ?_ ?_
  ·refine i5 (i:=3) sc_q29.nd rfl (Or.inl rfl) ?_;exact f8 C_q32 (hr.mono (by decide)) rfl (b4 (sv 0) (b4 (c5 c4 (sv 1) b7) (b4 k9 b8)))
  refine b9 ?_ ?_
  ·refine v8 ?_ (c8 (j2 n8)) j9;exact W7 (T4 (i9 O1 (sv 2) n8) (Q5 (i9 O1 (sv 3) n8)))
  refine b9 ?_ ?_
  ·exact i5 (i:=4) sc_q29.nd rfl (Or.inl rfl) (c5 c4 (sv 2) b7)
  refine b9 ?_ ?_
  ·refine v8 ?_ (c8 (j2 n8)) j9;exact W7 (T4 (i9 (L9 hr.units) (c5 c4 (sv 2) b7) b7) (T4 (i9 (L9 hr.units) (c5 c4 (sv 3) b7) (sv 4)) (Q5 (i9 (L9 hr.units) (c5 c4 (sv 3) b7) (c5 c4 (sv 2) b7)))))
  refine c8 ?_;refine j2 ?_;refine j4 (n:=5) ?_;refine b4 k9 ?_;refine b4 (sv 4) ?_;refine b4 (c5 c4 (sv 3) b7) ?_;refine b4 (c5 c4 (sv 3) b7) ?_;refine b4 ?_ b8;exact d8 j1 (c5 c4 (sv 2) b7) (c5 c4 (sv 3) b7)) b2U
def a9Q:DS:=(f7 (j0 (j8 M0 (b5 (b6 1) (b5 (dOp pIx (b6 2) (dC (.int 1))) (b5 (dC (.str "within")) d7)))) (c9 3))
  (f7 (v7 (n5 (dOp (pIs false) (b6 3) (dC .non))) (m5 (dC .non)) o0)
  (f7 (j0 (dOp pIx (b6 3) (dC (.int 1))) (c9 4))
  (f7 (j0 (j8 Y0 (b5 (b6 0) (b5 (u0 (b5 (b6 4) (b5 (dOp pIx (b6 3) (dC (.int 3))) (b5 (dOp pIx (b6 3) (dC (.int 4))) d7)))) (b5 (j8 a1h (b5 (b6 2) d7)) d7)))) (c9 5))
  (f7 (v7 (n5 (dOp (pIs false) (b6 5) (dC .non))) (m5 (dC .non)) o0)
  (m5 (u0 (b5 (dC (.str "within")) (b5 (b6 4) (b5 (dOp pIx (b6 3) (dC (.int 2))) (b5 (dOp pIx (b6 5) (dC (.int 2))) (b5 (dOp pIx (b6 2) (dC (.int 3))) (b5 (dOp m9 (dOp pIx (b6 3) (dC (.int 5))) (dOp pIx (b6 5) (dC (.int 3)))) d7)))))))))))))
def a4D:DSp:=fun ds h Q=>∃ (c a:D) (C:d9) (cs:List Clm) (st:Nat) (w:Mv) (k n e:Int),ds=[c,a,rD (.mv w k n e)]/\w ≠ .inn/\ChD h c C/\WF C/\A4 h a=some (cs.map clD)/\(∀ c ∈ cs,Z0 C c)/\Q (oD clD (f9 C st cs (.mv w k n e))) h
theorem b3C:∀ ds h Q,a4D ds h Q->i7 6 a9Q ds h Q:=by
 rintro ds h Q ⟨c,a,C,cs,st,w,k,n,e,rfl,nw,hc,wf,ha,ok,q⟩
 delta i7 a9Q;simp only [VS];left;simp only [rD,VV];refine ⟨a,cs,k,true,rfl,ha,?_⟩;subst hN;left
 cases hb:u7 cs k true with
 |none =>
  have eq:f9 C st cs (.mv w k n e)=none:=by
   have hn:=P0 hb
   cases w with
   |inn=>exact absurd rfl nw
   |_ =>
    show (match i8 cs k with | some (.within f a p d c)=>_ | _=>none)=none
    cases q2:i8 cs k with
    |none=>rfl
    |some x =>
     cases x with
     |within f a p d c=>exact absurd q2 (hn f a p d c)
     |«at» f p d c=>rfl
  rw [eq] at q;simp only [oD,VV];exact q
 |some b =>
  obtain ⟨f,a',p,d,x,rfl,hk⟩:=U7 hb;obtain ⟨F,hF,o1,o2,o3⟩:=A3 ok hk;simp only [oD,clD,VV];subst hN;left;simp only [VV];subst hN;left;simp only [VV];refine ⟨_,_,_,_,rfl,c,C,f,p,d,F,w,n,e,rfl,hc,wf,hF,o3,?_⟩
  have eq:f9 C st cs (.mv w k n e)=(n4 C f p d w n e).map fun E=>.within f a' E.q e.toNat (x + E.cost):=by
   cases w with
   |inn=>exact absurd rfl nw
   |_ =>
    show (match i8 cs k with | some (.within f a p d c)=>_ | _=>none)=_;rw [hk]
  rw [eq] at q;subst hN;left
  cases ht:n4 C f p d w n e with
  |none=>rw [ht] at q;simp only [oD,VV];exact q
  |some E =>
   rw [ht] at q;simp only [oD,b7n,VV];subst hN;simp only [b2K,b3E,VV];have he:0 <= e:=(E6 ht).2.2.2.2;have q:Q (.tup [.str "within",nD f,nD a',nD E.q,.int ((e.toNat:Nat):Int),.int ((x + E.cost:Nat):Int)]) h:=q;rw [Int.toNat_of_nonneg he,Int.natCast_add] at q;exact q
theorem b6C{f:Addr}{fd:FuncData}(F:Fun K "edge_claim" "edge_claim" a8s f fd)(T:Txt P w K mg)(C_q32:Cal P w K mg base 1 "claim_ahead" ["ahead","k","sort"] (spD K 3 M0))(C_q45:Cal P w K mg base 1 "move_of" ["row"] (spD K 1 a1h))(C_q36:Cal P w K mg base 3 "edge_taken" ["chart","here","move"] (spD K 3 Y0)):l9 P w K mg base CX0 4 f fd ["chart","ahead","row"] (spD K 3 a4D) :=
 l8 (k:=3) (b:=a9Q) F sc_q35 (fun cdv A outer s H E hr=>by
  refine b9 ?_ ?_
  ·refine i5 (i:=3) sc_q35.nd rfl (Or.inl rfl) ?_;exact f8 C_q32 (hr.mono (by decide)) rfl (b4 (sv 1) (b4 (c5 c4 (sv 2) b7) (b4 k9 b8)))
  refine b9 ?_ ?_
  ·exact v8 (i9 O1 (sv 3) n8) (c8 (j2 n8)) j9
  refine b9 ?_ ?_
  ·exact i5 (i:=4) sc_q35.nd rfl (Or.inl rfl) (c5 c4 (sv 3) b7)
  refine b9 ?_ ?_
  ·refine i5 (i:=5) ?_ ?_ ?_ ?_
   ·exact sc_q35.nd
   ·exact rfl
   ·exact Or.inl rfl
   exact f8 C_q36 (hr.mono (by decide)) rfl (b4 (sv 0) (b4 (j4 (b4 (sv 4) (b4 (c5 c4 (sv 3) b7) (b4 (c5 c4 (sv 3) b7) b8)))) (b4 (f8 C_q45 (hr.mono (by decide)) rfl (b4 (sv 2) b8)) b8)))
  refine b9 ?_ ?_
  ·exact v8 (i9 O1 (sv 5) n8) (c8 (j2 n8)) j9
  refine c8 ?_;refine j2 ?_;refine j4 (n:=6) ?_;refine b4 k9 ?_;refine b4 (sv 4) ?_;refine b4 (c5 c4 (sv 3) b7) ?_;refine b4 (c5 c4 (sv 5) b7) ?_;refine b4 (c5 c4 (sv 2) b7) ?_;refine b4 ?_ b8;exact d8 j1 (c5 c4 (sv 3) b7) (c5 c4 (sv 5) b7)) b3C
def a6V:DS:=(f7 (j0 (j8 M0 (b5 (b6 1) (b5 (dOp pIx (b6 2) (dC (.int 1))) (b5 (dC (.str "within")) d7)))) (c9 3))
  (f7 (j0 (j8 M0 (b5 (b6 1) (b5 (dOp pIx (b6 2) (dC (.int 3))) (b5 (dC (.str "within")) d7)))) (c9 4))
  (f7 (v7 (dOr (n5 (dOp (pIs false) (b6 3) (dC .non))) (n5 (dOp (pIs false) (b6 4) (dC .non)))) (m5 (dC .non)) o0)
  (f7 (j0 (dOp pIx (b6 3) (dC (.int 1))) (c9 5))
  (f7 (j0 (j8 Y0 (b5 (b6 0) (b5 (u0 (b5 (b6 5) (b5 (dOp pIx (b6 3) (dC (.int 3))) (b5 (dOp pIx (b6 3) (dC (.int 4))) d7)))) (b5 (u0 (b5 (dC (.str "in")) (b5 (dOp pIx (b6 2) (dC (.int 2))) (b5 (dOp pIx (b6 4) (dC (.int 2))) d7)))) d7)))) (c9 6))
  (f7 (v7 (dOr (n5 (dOp (pIs false) (b6 6) (dC .non))) (dOr (n5 (dOp (pEq true) (dOp pIx (b6 6) (dC (.int 4))) (dOp pIx (b6 4) (dC (.int 1))))) (n5 (dOp (pEq true) (dOp pIx (b6 4) (dC (.int 3))) (j8 a1n (b5 (b6 0) (b5 (dOp pIx (b6 4) (dC (.int 1))) d7))))))) (m5 (dC .non)) o0)
  (f7 (v7 (b2z (dTr (j8 a1F (b5 (dOp pIx (b6 6) (dC (.int 6))) (b5 (dOp pIx (b6 4) (dC (.int 4))) (b5 (dOp pIx (b6 2) (dC (.int 4))) d7)))))) (m5 (dC .non)) o0)
  (m5 (u0 (b5 (dC (.str "within")) (b5 (b6 5) (b5 (dOp pIx (b6 3) (dC (.int 2))) (b5 (dOp pIx (b6 6) (dC (.int 2))) (b5 (dOp pIx (b6 2) (dC (.int 4))) (b5 (dOp m9 (dOp m9 (dOp pIx (b6 3) (dC (.int 5))) (dOp pIx (b6 6) (dC (.int 3)))) (dOp pIx (b6 4) (dC (.int 5)))) d7)))))))))))))))
def a4P:DSp:=fun ds h Q=>∃ (c a:D) (C:d9) (cs:List Clm) (st:Nat) (k n j e:Int),ds=[c,a,rD (.short k n j e)]/\ChD h c C/\WF C/\A4 h a=some (cs.map clD)/\(∀ c ∈ cs,Z0 C c)/\Q (oD clD (f9 C st cs (.short k n j e))) h
theorem b2L:∀ ds h Q,a4P ds h Q->i7 7 a6V ds h Q:=by
 rintro ds h Q ⟨c,a,C,cs,st,k,n,j,e,rfl,hc,wf,ha,ok,q⟩
 delta i7 a6V;simp only [VS];left;simp only [rD,VV];refine ⟨a,cs,k,true,rfl,ha,?_⟩;subst hN;left;simp only [VV];refine ⟨a,cs,j,true,rfl,ha,?_⟩;subst hN;left
 cases hb:u7 cs k true with
 |none =>
  have eq:f9 C st cs (.short k n j e)=none:=by
   have hn:=P0 hb;show (match i8 cs k,i8 cs j with | some (.within f a p d c),some (.within g b x y c')=>_ | _,_=>none)=none
   cases q2:i8 cs k with
   |none=>rfl
   |some x =>
    cases x with
    |within f a p d c=>exact absurd q2 (hn f a p d c)
    |«at» f p d c=>rfl
  rw [eq] at q;simp only [oD,VV];exact q
 |some b =>
  obtain ⟨f,a',p,d,x,rfl,hk⟩:=U7 hb;obtain ⟨F,hF,o1,o2,o3⟩:=A3 ok hk
  cases hb2:u7 cs j true with
  |none =>
   have eq:f9 C st cs (.short k n j e)=none:=by
    have hn:=P0 hb2;show (match i8 cs k,i8 cs j with | some (.within f a p d c),some (.within g b x y c')=>_ | _,_=>none)=none;rw [hk]
    cases q2:i8 cs j with
    |none=>rfl
    |some x =>
     cases x with
     |within f a p d c=>exact absurd q2 (hn f a p d c)
     |«at» f p d c=>rfl
   rw [eq] at q;simp only [oD,clD,VV];exact q
  |some b2 =>
   obtain ⟨g,b,px,y,x',rfl,hk2⟩:=U7 hb2;obtain ⟨G,hG,p1,p2,p3⟩:=A3 ok hk2;simp only [oD,clD,VV];subst hN;left;simp only [VV];subst hN;left;simp only [VV];refine ⟨c,C,f,p,d,F,.inn,n,(b:Int),rfl,hc,wf,hF,o3,?_⟩;subst hN;left
   have eq:f9 C st cs (.short k n j e)=(n4 C f p d .inn n b).bind fun E=>match E.k with
     |.call g' _ bk _=>(C[g']?).bind fun G=>if g'=g/\px + 1=G.places/\br bk y e=true then some (.within f a' E.q e.toNat (x + E.cost + x')) else none
     |_=>none:=by
    show (match i8 cs k,i8 cs j with | some (.within f a p d c),some (.within g b x y c')=>_ | _,_=>none)=_;rw [hk,hk2] <;> rfl
   rw [eq] at q
   cases ht:n4 C f p d .inn n b with
   |none=>rw [ht] at q;simp only [oD,VV];exact q
   |some E =>
    rw [ht] at q;obtain ⟨F',g',i,bk,o,G',hF',hk',hG',t1,t2,t3,_,_,_,_⟩:=N7 wf ht;obtain ⟨ep,eq',ec,ek⟩:=E;dsimp only at hk';subst hk';rw [hF] at hF';cases hF'
    have q:Q (oD clD ((C[g']?).bind fun G=>if g'=g/\px + 1=G.places/\br bk y e=true then some (.within f a' eq' e.toNat (x + ec + x')) else none)) h:=q;rw [hG'] at q;have q:Q (oD clD (if g'=g/\px + 1=G'.places/\br bk y e=true then some (.within f a' eq' e.toNat (x + ec + x')) else none)) h:=q;have e1:((g':Int) == (g:Int))=decide (g'=g):=by first | exact a6q _ _ | exact a9g _ _ | exact beqS _ _
    simp only [oD,eD,e1,VV]
    by_cases h1:g'=g
    ·subst h1;rw [hG] at hG';cases hG'
     simp only [VV];refine ⟨c,C,g',G,rfl,hc,hG,?_⟩;have e2:((px:Int) == (G.places:Int) - 1)=decide (px + 1=G.places):=by first | exact a6q _ _ | exact a9g _ _ | exact beqS _ _
     simp only [e2,VV]
     by_cases h2:px + 1=G.places
     ·simp only [h2,VV];subst hN;left;simp only [VV];refine ⟨bk,_,_,y,e,rfl,t2,(wf.fn f F hF).2.2.2.1,p3,?_⟩
      by_cases h3:br bk y e=true
      ·rw [if_pos ⟨rfl,h2,h3⟩] at q;simp only [h3,VV];subst hN;simp only [VV];have he:0 <= e:=by unfold br at h3;rw [Bool.and_eq_true] at h3;exact of_decide_eq_true h3.1
       have q:Q (.tup [.str "within",nD f,nD a',nD eq',.int ((e.toNat:Nat):Int),.int ((x + ec + x':Nat):Int)]) h:=q;rw [Int.toNat_of_nonneg he,Int.natCast_add,Int.natCast_add] at q;exact q
      ·rw [if_neg (fun z=>h3 z.2.2)] at q;simp only [h3,VV];exact q
     ·rw [if_neg (fun z=>h2 z.2.1)] at q;simp only [h2,VV];exact q
    ·rw [if_neg (fun z=>h1 z.1)] at q;simp only [h1,VV];exact q
theorem b8n{f:Addr}{fd:FuncData}(F:Fun K "short_claim" "short_claim" a7W f fd)(T:Txt P w K mg)(C_q32:Cal P w K mg base 1 "claim_ahead" ["ahead","k","sort"] (spD K 3 M0))(C_q36:Cal P w K mg base 3 "edge_taken" ["chart","here","move"] (spD K 3 Y0))(C_q38:Cal P w K mg base 1 "exit_of" ["chart","f"] (spD K 2 a1n))(C_q31:Cal P w K mg base 2 "brings" ["table","d","e"] (spD K 3 a1F)):l9 P w K mg base CX0 4 f fd ["chart","ahead","row"] (spD K 3 a4P) :=
 l8 (k:=3) (b:=a6V) F sc_q47 (fun cdv A outer s H E hr=>by
  refine b9 ?_ ?_
  ·refine i5 (i:=3) sc_q47.nd rfl (Or.inl rfl) ?_;exact f8 C_q32 (hr.mono (by decide)) rfl (b4 (sv 1) (b4 (c5 c4 (sv 2) b7) (b4 k9 b8)))
  refine b9 ?_ ?_
  ·refine i5 (i:=4) sc_q47.nd rfl (Or.inl rfl) ?_;exact f8 C_q32 (hr.mono (by decide)) rfl (b4 (sv 1) (b4 (c5 c4 (sv 2) b7) (b4 k9 b8)))
  refine b9 ?_ ?_
  ·refine v8 ?_ (c8 (j2 n8)) j9;exact W7 (T4 (i9 O1 (sv 3) n8) (Q5 (i9 O1 (sv 4) n8)))
  refine b9 ?_ ?_
  ·exact i5 (i:=5) sc_q47.nd rfl (Or.inl rfl) (c5 c4 (sv 3) b7)
  refine b9 ?_ ?_
  ·refine i5 (i:=6) ?_ ?_ ?_ ?_
   ·exact sc_q47.nd
   ·exact rfl
   ·exact Or.inl rfl
   exact f8 C_q36 (hr.mono (by decide)) rfl (b4 (sv 0) (b4 (j4 (b4 (sv 5) (b4 (c5 c4 (sv 3) b7) (b4 (c5 c4 (sv 3) b7) b8)))) (b4 (j4 (b4 k9 (b4 (c5 c4 (sv 2) b7) (b4 (c5 c4 (sv 4) b7) b8)))) b8)))
  refine b9 ?_ ?_
  ·refine v8 ?_ (c8 (j2 n8)) j9;exact W7 (T4 (i9 O1 (sv 6) n8) (T4 (i9 (L9 hr.units) (c5 c4 (sv 6) b7) (c5 c4 (sv 4) b7)) (Q5 (i9 (L9 hr.units) (c5 c4 (sv 4) b7) (f8 C_q38 (hr.mono (by decide)) rfl (b4 (sv 0) (b4 (c5 c4 (sv 4) b7) b8)))))))
  refine b9 ?_ ?_
  ·refine v8 ?_ (c8 (j2 n8)) j9;exact a3P (A8 (f8 C_q31 (hr.mono (by decide)) rfl (b4 (c5 c4 (sv 6) b7) (b4 (c5 c4 (sv 4) b7) (b4 (c5 c4 (sv 2) b7) b8)))))
  refine c8 ?_;refine j2 ?_;refine j4 (n:=6) ?_;refine b4 k9 ?_;refine b4 (sv 5) ?_;refine b4 (c5 c4 (sv 3) b7) ?_;refine b4 (c5 c4 (sv 6) b7) ?_;refine b4 (c5 c4 (sv 2) b7) ?_;refine b4 ?_ b8;exact d8 j1 (d8 j1 (c5 c4 (sv 3) b7) (c5 c4 (sv 6) b7)) (c5 c4 (sv 4) b7)) b2L
def a7F:DS:=(f7 (j0 (j8 M0 (b5 (b6 1) (b5 (dOp pIx (b6 2) (dC (.int 1))) (b5 (dC (.str "at")) d7)))) (c9 3))
  (f7 (v7 (n5 (dOp (pIs false) (b6 3) (dC .non))) (m5 (dC .non)) o0)
  (f7 (j0 (j8 Y0 (b5 (b6 0) (b5 (u0 (b5 (dOp pIx (b6 3) (dC (.int 1))) (b5 (dOp pIx (b6 3) (dC (.int 2))) (b5 (dOp pIx (b6 3) (dC (.int 3))) d7)))) (b5 (j8 a1h (b5 (b6 2) d7)) d7)))) (c9 4))
  (m5 (dIf (n5 (dOp (pIs false) (b6 4) (dC .non))) (dC .non) (u0 (b5 (dC (.str "at")) (b5 (dOp pIx (b6 4) (dC (.int 4))) (b5 (dC (.int 0)) (b5 (dOp pIx (b6 2) (dC (.int 3))) (b5 (dOp m9 (dOp pIx (b6 3) (dC (.int 4))) (dOp pIx (b6 4) (dC (.int 3)))) d7)))))))))))
def a5c:DSp:=fun ds h Q=>∃ (c a:D) (C:d9) (cs:List Clm) (st:Nat) (k n e:Int),ds=[c,a,rD (.mv .inn k n e)]/\ChD h c C/\WF C/\A4 h a=some (cs.map clD)/\(∀ c ∈ cs,Z0 C c)/\Q (oD clD (f9 C st cs (.mv .inn k n e))) h
theorem b2v:∀ ds h Q,a5c ds h Q->i7 5 a7F ds h Q:=by
 rintro ds h Q ⟨c,a,C,cs,st,k,n,e,rfl,hc,wf,ha,ok,q⟩
 delta i7 a7F;simp only [VS];left;simp only [rD,VV];refine ⟨a,cs,k,false,rfl,ha,?_⟩;subst hN;left
 cases hb:u7 cs k false with
 |none =>
  have eq:f9 C st cs (.mv .inn k n e)=none:=by
   have hn:=a1r hb;show (match i8 cs k with | some (.at f p d c)=>_ | _=>none)=none
   cases q2:i8 cs k with
   |none=>rfl
   |some x =>
    cases x with
    |within f a p d c=>rfl
    |«at» f p d c=>exact absurd q2 (hn f p d c)
  rw [eq] at q;simp only [oD,VV];exact q
 |some b =>
  obtain ⟨f,p,d,x,rfl,hk⟩:=a3m hb;obtain ⟨F,hF,o1,o2⟩:=A3 ok hk;simp only [oD,clD,VV];subst hN;left;simp only [VV];refine ⟨_,_,_,_,rfl,c,C,f,p,d,F,.inn,n,e,rfl,hc,wf,hF,o2,?_⟩
  have eq:f9 C st cs (.mv .inn k n e)=(n4 C f p d .inn n e).bind fun E=>match E.k with | .call g _ _ _=>some (.at g 0 e.toNat (x + E.cost)) | _=>none:=by
   show (match i8 cs k with | some (.at f p d c)=>_ | _=>none)=_;rw [hk] <;> rfl
  rw [eq] at q;subst hN
  cases ht:n4 C f p d .inn n e with
  |none=>rw [ht] at q;simp only [oD,VV];exact q
  |some E =>
   rw [ht] at q;obtain ⟨F',g,i,b,o,G,_,hk',_,_,_,_,_,_,_,he⟩:=N7 wf ht;obtain ⟨ep,eq',ec,ek⟩:=E;dsimp only at hk';subst hk';simp only [oD,eD,VV];have q:Q (.tup [.str "at",nD g,nD 0,.int ((e.toNat:Nat):Int),.int ((x + ec:Nat):Int)]) h:=q;rw [Int.toNat_of_nonneg he,Int.natCast_add] at q;exact q
theorem b7T{f:Addr}{fd:FuncData}(F:Fun K "in_claim" "in_claim" a9C f fd)(T:Txt P w K mg)(C_q32:Cal P w K mg base 1 "claim_ahead" ["ahead","k","sort"] (spD K 3 M0))(C_q45:Cal P w K mg base 1 "move_of" ["row"] (spD K 1 a1h))(C_q36:Cal P w K mg base 3 "edge_taken" ["chart","here","move"] (spD K 3 Y0)):l9 P w K mg base CX0 4 f fd ["chart","ahead","row"] (spD K 3 a5c) :=
 l8 (k:=3) (b:=a7F) F sc_q40 (fun cdv A outer s H E hr=>by
  refine b9 ?_ ?_
  ·refine i5 (i:=3) sc_q40.nd rfl (Or.inl rfl) ?_;exact f8 C_q32 (hr.mono (by decide)) rfl (b4 (sv 1) (b4 (c5 c4 (sv 2) b7) (b4 k9 b8)))
  refine b9 ?_ ?_
  ·exact v8 (i9 O1 (sv 3) n8) (c8 (j2 n8)) j9
  refine b9 ?_ ?_
  ·refine i5 (i:=4) ?_ ?_ ?_ ?_
   ·exact sc_q40.nd
   ·exact rfl
   ·exact Or.inl rfl
   exact f8 C_q36 (hr.mono (by decide)) rfl (b4 (sv 0) (b4 (j4 (b4 (c5 c4 (sv 3) b7) (b4 (c5 c4 (sv 3) b7) (b4 (c5 c4 (sv 3) b7) b8)))) (b4 (f8 C_q45 (hr.mono (by decide)) rfl (b4 (sv 2) b8)) b8)))
  refine c8 ?_;refine j2 ?_;exact a0Q (i9 O1 (sv 4) n8) n8 (j4 (b4 k9 (b4 (c5 c4 (sv 4) b7) (b4 b7 (b4 (c5 c4 (sv 2) b7) (b4 (d8 j1 (c5 c4 (sv 3) b7) (c5 c4 (sv 4) b7)) b8))))))) b2v
def U4:DS:=(f7 (v7 (n5 (dOp (pEq false) (dOp pIx (b6 3) (dC (.int 0))) (dC (.str "begin")))) (m5 (j8 a5n (b5 (b6 0) (b5 (b6 3) d7)))) o0)
  (f7 (v7 (n5 (dOp (pEq false) (dOp pIx (b6 3) (dC (.int 0))) (dC (.str "start")))) (m5 (j8 a5J (b5 (b6 0) (b5 (b6 1) (b5 (b6 3) d7))))) o0)
  (f7 (v7 (n5 (dOp (pEq false) (dOp pIx (b6 3) (dC (.int 0))) (dC (.str "short")))) (m5 (j8 a4P (b5 (b6 0) (b5 (b6 2) (b5 (b6 3) d7))))) o0)
  (f7 (v7 (n5 (dOp (pEq false) (dOp pIx (b6 3) (dC (.int 0))) (dC (.str "in")))) (m5 (j8 a5c (b5 (b6 0) (b5 (b6 2) (b5 (b6 3) d7))))) o0)
  (f7 (v7 (n5 (dOp (pEq false) (dOp pIx (b6 3) (dC (.int 0))) (dC (.str "along")))) (m5 (j8 a4G (b5 (b6 2) (b5 (b6 3) d7)))) o0)
  (m5 (j8 a4D (b5 (b6 0) (b5 (b6 2) (b5 (b6 3) d7))))))))))
def a4M:DSp:=fun ds h Q=>∃ (c a:D) (C:d9) (cs:List Clm) (st:Nat) (r:Row),ds=[c,nD st,a,rD r]/\ChD h c C/\WF C/\A4 h a=some (cs.map clD)/\(∀ c ∈ cs,Z0 C c)/\Q (oD clD (f9 C st cs r)) h
theorem b3a:∀ ds h Q,a4M ds h Q->i7 4 U4 ds h Q:=by
 rintro ds h Q ⟨c,a,C,cs,st,r,rfl,hc,wf,ha,ok,q⟩
 cases r with
 |begin f d=>delta i7 U4;simp only [VS];left;simp only [rD,VV];exact ⟨c,C,cs,st,f,d,rfl,hc,q⟩
 |start d=>delta i7 U4;simp only [VS];left;simp only [rD,VV];subst hN;left;simp only [VV];exact ⟨c,C,cs,st,d,rfl,hc,wf,q⟩
 |short k n j e=>delta i7 U4;simp only [VS];left;simp only [rD,VV];subst hN;left;simp only [VV];subst hN;left;simp only [VV];exact ⟨c,a,C,cs,st,k,n,j,e,rfl,hc,wf,ha,ok,q⟩
 |along k j=>delta i7 U4;simp only [VS];left;simp only [rD,VV];subst hN;left;simp only [VV];subst hN;left;simp only [VV];subst hN;left;simp only [VV];subst hN;left;simp only [VV];exact ⟨a,C,cs,st,k,j,rfl,ha,q⟩
 |mv w k n e =>
  cases w with
  |inn=>delta i7 U4;simp only [VS];left;simp only [rD,Mv.w,VV];subst hN;left;simp only [VV];subst hN;left;simp only [VV];subst hN;left;simp only [VV];exact ⟨c,a,C,cs,st,k,n,e,rfl,hc,wf,ha,ok,q⟩
  |step=>delta i7 U4;simp only [VS];left;simp only [rD,Mv.w,VV];subst hN;left;simp only [VV];subst hN;left;simp only [VV];subst hN;left;simp only [VV];subst hN;left;simp only [VV];subst hN;simp only [VV];exact ⟨c,a,C,cs,st,.step,k,n,e,rfl,by decide,hc,wf,ha,ok,q⟩
  |over=>delta i7 U4;simp only [VS];left;simp only [rD,Mv.w,VV];subst hN;left;simp only [VV];subst hN;left;simp only [VV];subst hN;left;simp only [VV];subst hN;left;simp only [VV];subst hN;simp only [VV];exact ⟨c,a,C,cs,st,.over,k,n,e,rfl,by decide,hc,wf,ha,ok,q⟩
theorem b5I{f:Addr}{fd:FuncData}(F:Fun K "claim_of" "claim_of" a8T f fd)(T:Txt P w K mg)(C_q30:Cal P w K mg base 1 "begin_claim" ["chart","row"] (spD K 2 a5n))(C_q49:Cal P w K mg base 2 "start_claim" ["chart","start","row"] (spD K 3 a5J))(C_q47:Cal P w K mg base 4 "short_claim" ["chart","ahead","row"] (spD K 3 a4P))(C_q40:Cal P w K mg base 4 "in_claim" ["chart","ahead","row"] (spD K 3 a5c))(C_q29:Cal P w K mg base 2 "along_claim" ["ahead","row"] (spD K 2 a4G))(C_q35:Cal P w K mg base 4 "edge_claim" ["chart","ahead","row"] (spD K 3 a4D)):l9 P w K mg base CX0 5 f fd ["chart","start","ahead","row"] (spD K 4 a4M) :=
 l8 (k:=4) (b:=U4) F b8M (fun cdv A outer s H E hr=>by
  refine b9 ?_ ?_
  ·refine v8 (i9 (z9 hr.units) (c5 c4 (sv 3) b7) k9) ?_ j9;refine c8 ?_;exact j2 (f8 C_q30 (hr.mono (by decide)) rfl (b4 (sv 0) (b4 (sv 3) b8)))
  refine b9 ?_ ?_
  ·refine v8 (i9 (z9 hr.units) (c5 c4 (sv 3) b7) k9) ?_ j9;refine c8 ?_;refine j2 ?_;exact f8 C_q49 (hr.mono (by decide)) rfl (b4 (sv 0) (b4 (sv 1) (b4 (sv 3) b8)))
  refine b9 ?_ ?_
  ·refine v8 (i9 (z9 hr.units) (c5 c4 (sv 3) b7) k9) ?_ j9;refine c8 ?_;refine j2 ?_;exact f8 C_q47 (hr.mono (by decide)) rfl (b4 (sv 0) (b4 (sv 2) (b4 (sv 3) b8)))
  refine b9 ?_ ?_
  ·refine v8 (i9 (z9 hr.units) (c5 c4 (sv 3) b7) k9) ?_ j9;refine c8 ?_;refine j2 ?_;exact f8 C_q40 (hr.mono (by decide)) rfl (b4 (sv 0) (b4 (sv 2) (b4 (sv 3) b8)))
  refine b9 ?_ ?_
  ·refine v8 (i9 (z9 hr.units) (c5 c4 (sv 3) b7) k9) ?_ j9;refine c8 ?_;exact j2 (f8 C_q29 (hr.mono (by decide)) rfl (b4 (sv 2) (b4 (sv 3) b8)))
  refine c8 ?_;refine j2 ?_;exact f8 C_q35 (hr.mono (by decide)) rfl (b4 (sv 0) (b4 (sv 2) (b4 (sv 3) b8)))) b3a
def a1j:DS:=(f7 (j0 (dTk d7) (c9 3))
  (f7 (E2 (C0 (b6 2)) (c9 4) (f7 (j0 (j8 a4M (b5 (b6 0) (b5 (b6 1) (b5 (b6 3) (b5 (b6 4) d7))))) (c9 5))
  (f7 (v7 (n5 (dOp (pIs false) (b6 5) (dC .non))) a8V o0)
  (y9 (B7 (b6 3) (b5 (b6 5) d7))))))
  (m5 (b6 3))))
def a5h:DSp:=fun ds h Q=>∃ (c a:D) (C:d9) (rs:List Row) (st:Nat) (cs:List Clm),ds=[c,nD st,a]/\ChD h c C/\WF C/\A4 h a=some (rs.map rD)/\rs.length <= 100000/\p9 C st rs []=some cs/\Q (.ref h.length) (h ++ [.lst (cs.map clD)])
theorem b2e:∀ ds h Q,a5h ds h Q->i7 6 a1j ds h Q:=by
 rintro ds h Q ⟨c,a,C,rs,st,cs,rfl,hc,wf,ha,hl,hcs,q⟩
 have p0:Pre h (h ++ [.lst []]):=Pre.app _ _;obtain ⟨w,e1,e2,e3⟩:=b7N (p0.ls ha);simp only [e1,↓a1j,↓i7,↓f7,VV];refine m8 (fun p δ h'=>∃ (cl:List Clm) (x1 x2:Option D),δ=[some c,some (nD st),some a,some (.ref h.length),x1,x2]/\h'=h ++ [.lst (cl.map clD)]/\(∀ c ∈ cl,Z0 C c)/\cl.length=p.length/\p9 C st (rs.drop p.length) cl=some cs) ⟨[],none,none,rfl,rfl,(fun c hc=>nomatch hc),rfl,hcs⟩ ?_ ?_ ?_
 ·rintro p δ h' ⟨cl,x1,x2,rfl,rfl,_⟩ z hz
  obtain ⟨i,e4,e5⟩:=e3 z hz;subst e4 e5
  have hi:i < h.length:=by
   rcases Nat.lt_or_ge i h.length with y | y
   ·exact y
   ·have ha':A4 h (.ref i)=some (rs.map rD):=ha
    have:(match h[i]? with | some (.lst xs)=>some xs | _=>none)=some (rs.map rD):=ha'
    rw [List.getElem?_eq_none y] at this;cases this
  have ok:=e2 _ hz;rw [List.getElem?_append_left hi] at ok ⊢;exact ok
 ·rintro p r rest δ h' N e ⟨cl,x1,x2,rfl,rfl,ok,hlen,hall⟩ hN
  have p1:Pre h (h ++ [.lst (cl.map clD)]):=Pre.app _ _;have hd:rs.drop p.length=r :: rest:=by rw [e];simp
  rw [hd] at hall;have hall:((f9 C st cl r).bind fun c=>p9 C st rest (cl ++ [c]))=some cs:=hall;simp only [↓a1j,↓i7,↓f7,VV];refine ⟨c,.ref h.length,C,cl,st,r,rfl,hc.mono p1,wf,b6U _ _,ok,?_⟩
  cases hr:f9 C st cl r with
  |none=>rw [hr] at hall;cases hall
  |some k =>
   rw [hr] at hall;simp only [oD,b1G,u9,A9,↓a1j,↓i7,↓f7,VV];have hb:cl.length < rs.length:=by rw [hlen,e];simp
   refine ⟨by rw [List.length_map];omega,hN _ _ ⟨cl ++ [k],_,_,rfl,by rw [List.map_append];rfl,fun c hc'=>?_,by simp [hlen],?_⟩⟩
   ·rcases List.mem_append.mp hc' with z | z
    ·exact ok c z
    ·rw [List.mem_singleton.mp z];exact S8 wf ok hr
   ·have hd2:rs.drop (p ++ [r]).length=rest:=by rw [e];simp
    rw [hd2];exact hall
 ·rintro δ h' ⟨cl,x1,x2,rfl,rfl,ok,hlen,hall⟩
  rw [List.drop_length] at hall;cases hall;simp only [↓a1j,↓i7,↓f7,VV];exact q
theorem b8z{f:Addr}{fd:FuncData}(F:Fun K "claims" "claims" a9v f fd)(T:Txt P w K mg)(C_q33:Cal P w K mg base 5 "claim_of" ["chart","start","ahead","row"] (spD K 4 a4M)):l9 P w K mg base CX0 6 f fd ["chart","start","rows"] (spD K 3 a5h) :=
 l8 (k:=5) (b:=a1j) F sc_q34 (fun cdv A outer s H E hr=>by
  refine b9 ?_ ?_
  ·exact i5 (i:=3) sc_q34.nd rfl (Or.inl rfl) (Z2 (r9 b8))
  refine b9 ?_ (c8 (j2 (sv 3)));refine A5 PassesOwn.never rfl (y7 (sv 2)) (i6 (i:=4) sc_q34.nd rfl (Or.inl rfl)) ?_;refine b9 ?_ ?_
  ·refine i5 (i:=5) sc_q34.nd rfl (Or.inl rfl) ?_;exact f8 C_q33 (hr.mono (by decide)) rfl (b4 (sv 0) (b4 (sv 1) (b4 (sv 3) (b4 (sv 4) b8))))
  refine b9 ?_ (c8 (t9 (v9 (sv 3) (b4 (sv 5) b8))));exact v8 (i9 O1 (sv 5) n8) (c8 b2N) j9) b2e
def a8S:DS:=(m5 (dOp b5q (dSl (b6 0) T2 (a0A (dC (.int 2)))) (dSl (b6 1) T2 (a0A (dC (.int 2))))))
def Y6:DSp:=fun ds h Q=>∃ (c n:Int) (t:D) (c' n':Int) (t':D),ds=[.tup [.int c,.int n,t],.tup [.int c',.int n',t']]/\Q (.bl (HT.lexLt [c,n] [c',n'])) h
theorem b3e:∀ ds h Q,Y6 ds h Q->i7 2 a8S ds h Q:=by
 rintro ds h Q ⟨c,n,t,c',n',t',rfl,q⟩
 have hc:∀ a b c:D,a0I [a,b,c] none (some 2)=[a,b]:=fun _ _ _=>rfl;have i2:∀ a b:Int,a0k [.int a,.int b]=some [a,b]:=fun _ _=>rfl;simp only [hc,i2,↓a8S,↓i7,↓f7,VV];exact q
theorem b7F{f:Addr}{fd:FuncData}(F:Fun K "is_ahead" "is_ahead" a8Z f fd)(T:Txt P w K mg):l9 P w K mg base CX0 1 f fd ["one","other"] (spD K 2 Y6) :=
 l8 (k:=0) (b:=a8S) F b7w (fun cdv A outer s H E hr=>by
  refine c8 ?_;refine j2 ?_;exact D6 (b7K hr.units0) (a3h (sv 0) Z8 (O9 b7)) (a3h (sv 1) Z8 (O9 b7))) b3e
def a9P:DS:=(f7 (M7 "Queue" "heap" (b6 0) (dTk d7))
  (M7 "Queue" "puts" (b6 0) (dC (.int 0))))
def a8e:DSp:=fun ds h Q=>∃ i,ds=[.ref i]/\h[i]?=some (.ins "Queue" [])/\Q .non (h.set i (qO h.length 0) ++ [.lst []])
theorem b6n:∀ ds h Q,a8e ds h Q->i7 1 a9P ds h Q:=by
 rintro ds h Q ⟨i,rfl,e,q⟩
 have hi:i < h.length:=(List.getElem?_eq_some_iff.mp e).1;have e1:(h ++ [O.lst []])[i]?=some (.ins "Queue" []):=by rw [List.getElem?_append_left hi];exact e
 delta i7 a9P;simp only [VS];left;simp only [e1,VV];refine ⟨⟨trivial,by decide⟩,?_⟩;subst hN;have e2:((h ++ [O.lst []]).set i (.ins "Queue" (putA "heap" (.ref h.length) [])))[i]?=some (.ins "Queue" (putA "heap" (.ref h.length) [])):=List.getElem?_set_self (by simp;omega);simp only [e2,VV];refine ⟨⟨trivial,show 1 < 1000 by decide⟩,?_⟩;rw [List.set_set,List.set_append_left _ _ hi];exact q
theorem b9v{f:Addr}{fd:FuncData}(F:Fun K "__init__" "Queue.__init__" a2C f fd)(T:Txt P w K mg):l9 P w K mg base CX0 1 f fd ["self"] (spD K 1 a8e) :=
 l8 (k:=0) (b:=a9P) F c0f (fun cdv A outer s H E hr=>by
  exact b9 (Q1 T.f_heap (sv 0) (Z2 (r9 b8)))     (c8 (Q1 T.f_puts (sv 0) b7))) b6n
def a7t:DS:=(f7 (j0 (dOp a0Y (dCB H9 (b5 (b6 0) d7)) (dC (.int 1))) (c9 1))
  (f7 (j0 (dOp pIx (b6 0) (b6 1)) (c9 2))
  (f7 (V3 (a3K (n5 (dOp pGt (b6 1) (dC (.int 0)))) (dTr (j8 Y6 (b5 (b6 2) (b5 (dOp pIx (b6 0) (dOp F7 (dOp a0Y (b6 1) (dC (.int 1))) (dC (.int 2)))) d7))))) (f7 (j0 (dOp pIx (b6 0) (dOp F7 (dOp a0Y (b6 1) (dC (.int 1))) (dC (.int 2)))) (a0t (b6 0) (b6 1)))
  (j0 (dOp F7 (dOp a0Y (b6 1) (dC (.int 1))) (dC (.int 2))) (c9 1))))
  (j0 (b6 2) (a0t (b6 0) (b6 1))))))
def a5v:DSp:=fun ds h Q=>∃ (j:Nat) (T:Tb) (xs:List Nat),ds=[.ref j]/\h[j]?=some (.lst (xs.map (hD T)))/\0 < xs.length/\xs.length <= 10000000/\UpH (ltT T) xs (xs.length - 1)/\∀ zs,zs.Perm xs->HP (ltT T) zs->Q .non (h.set j (.lst (zs.map (hD T))))
theorem R8(T:Tb)(xs:List Nat)(k:Nat)(hk:k < xs.length):atI (xs.map (hD T)) (k:Int)=some (hD T (at0 xs k)):=by rw [atN,List.getElem?_map,List.getElem?_eq_getElem hk,C1 hk];rfl
theorem a0E(T:Tb)(xs:List Nat)(k v:Nat):(xs.map (hD T)).set k (hD T v)=(xs.set k v).map (hD T):=by rw [List.map_set]
theorem b3f:∀ ds h Q,a5v ds h Q->i7 3 a7t ds h Q:=by
 rintro ds h Q ⟨j,T,xs,rfl,e,h0,hb,up,q⟩
 have hj:j < h.length:=(List.getElem?_eq_some_iff.mp e).1;delta i7 a7t;simp only [VS];left;simp only [y0 (l7 e),List.length_map,VV];rw [show (xs.length:Int) - 1=((xs.length - 1:Nat):Int) by right];subst hN;left;simp only [A6 (l7 e),R8 T xs _ (show xs.length - 1 < xs.length by right),VV];subst hN;left;refine U5 (fun m δ h'=>∃ (v:Nat) (ys:List Nat),δ=[some (.ref j),some (nD m),some (hD T v)]/\h'=h.set j (.lst (ys.map (hD T)))/\m < ys.length/\ys.length=xs.length/\(ys.set m v).Perm xs/\UpH (ltT T) (ys.set m v) m) (m:=xs.length - 1) ⟨at0 xs (xs.length - 1),xs,rfl,(a0f e).symm,by right,rfl,?_,?_⟩ ?_
 ·rw [<- C1 (show xs.length - 1 < xs.length by right),List.set_getElem_self]
 ·rw [<- C1 (show xs.length - 1 < xs.length by right),List.set_getElem_self];exact up
 ·rintro m δ h' N1 ⟨v,ys,rfl,rfl,hk,hl,pm,u⟩ hN1
  have ej:(h.set j (O.lst (ys.map (hD T))))[j]?=some (.lst (ys.map (hD T))):=List.getElem?_set_self hj
  have fin:HP (ltT T) (ys.set m v)->N [some (.ref j),some (nD m),some (hD T v)] (h.set j (O.lst (ys.map (hD T)))):=by
   intro hp;subst hN;simp only [ej,List.length_map,U3 hk,a0E,List.set_set,VV];exact q _ pm hp
  have zm:at0 (ys.set m v) m=v:=by rw [E3 _ _ _ _ hk,if_pos rfl]
  by_cases h0':0 < m
  ·have pe:((m:Int) - 1) / 2=(((m - 1) / 2:Nat):Int):=by right
   have hp:(m - 1) / 2 < ys.length:=by right
   have zp:at0 (ys.set m v) ((m - 1) / 2)=at0 ys ((m - 1) / 2):=by rw [E3 _ _ _ _ hk,if_neg (by right)]
   have d0:decide ((0:Int) < (m:Int))=true:=decide_eq_true (by right);simp only [d0,pe,A6 (l7 ej),R8 T ys _ hp,VV];refine ⟨⟨by decide,by decide⟩,cst T v,v,thg T v,cst T (at0 ys ((m - 1) / 2)),at0 ys ((m - 1) / 2),thg T (at0 ys ((m - 1) / 2)),rfl,?_⟩;have el:HT.lexLt [cst T v,(v:Int)] [cst T (at0 ys ((m - 1) / 2)),((at0 ys ((m - 1) / 2):Nat):Int)]=ltT T v (at0 ys ((m - 1) / 2)):=rfl;rw [el]
   cases c:ltT T v (at0 ys ((m - 1) / 2)) with
   |false =>
    simp only [VV];exact fin (u.done (.inr (by rw [zm,zp];exact c)))
   |true =>
    have sw:Y9 (ys.set m v) m ((m - 1) / 2)=(ys.set m (at0 ys ((m - 1) / 2))).set ((m - 1) / 2) v:=by unfold Y9;rw [zm,zp,List.set_set]
    have pm2:=(a1p (zs:=ys.set m v) (k:=m) (j:=(m - 1) / 2) (by simpa using hk) (by simpa using hp) (by right)).trans pm;have u2:=u.step (b4n T) h0' (by rw [zm,zp];exact c);rw [sw] at pm2 u2;simp only [VV]
    (try dsimp only);refine J9 fun N2 hN2=>?_;simp only [pe,A6 (l7 ej),R8 T ys _ hp,ej,List.length_map,U3 hk,a0E,List.set_set,VV];refine ⟨⟨by decide,by decide⟩,?_⟩;subst hN2;simp only [pe,VV];refine ⟨⟨by decide,by decide⟩,?_⟩;exact hN1 ((m - 1) / 2) _ _ (by right) ⟨v,_,rfl,rfl,by simpa using hp,by simpa using hl,pm2,u2⟩
  ·have m0:m=0:=by right
   have d0:decide ((0:Int) < (m:Int))=false:=decide_eq_false (by right);simp only [d0,VV];exact fin (u.done (.inl m0))
theorem b7u{f:Addr}{fd:FuncData}(F:Fun K "rise" "rise" a6X f fd)(T:Txt P w K mg)(C_q42:Cal P w K mg base 1 "is_ahead" ["one","other"] (spD K 2 Y6)):l9 P w K mg base CX0 2 f fd ["heap"] (spD K 1 a5v) :=
 l8 (k:=1) (b:=a7t) F sc_q46 (fun cdv A outer s H E hr=>by
  refine b9 ?_ ?_
  ·exact i5 (i:=1) sc_q46.nd rfl (Or.inl rfl) (d8 L6 (k7 y6 rfl T.b_len PySem.boot_len (b4 (sv 0) b8)) b7)
  refine b9 ?_ ?_
  ·exact i5 (i:=2) sc_q46.nd rfl (Or.inl rfl) (c5 c4 (sv 0) (sv 1))
  refine b9 ?_ (c8 (N0 (sv 2) (O6 (sv 0) (sv 1))));refine Z7 PassesOwn.never ?_ ?_
  ·exact W7 (V7 (i9 a0G (sv 1) b7) (P4 (A8 (f8 C_q42 (hr.mono (by decide)) rfl (b4 (sv 2) (b4 (c5 c4 (sv 0) (d8 u3 (d8 L6 (sv 1) b7) b7)) b8))))))
  refine b9 ?_ ?_
  ·exact N0 (c5 c4 (sv 0) (d8 u3 (d8 L6 (sv 1) b7) b7)) (O6 (sv 0) (sv 1))
  refine c8 ?_;exact i5 (i:=1) sc_q46.nd rfl (Or.inl rfl) (d8 u3 (d8 L6 (sv 1) b7) b7)) b3f
def b0r:DS:=(f7 (j0 (dOp m9 (dOp W8 (dC (.int 2)) (b6 1)) (dC (.int 1))) (c9 2))
  (f7 (v7 (a3K (n5 (dOp Y8 (dOp m9 (b6 2) (dC (.int 1))) (dCB H9 (b5 (b6 0) d7)))) (dTr (j8 Y6 (b5 (dOp pIx (b6 0) (dOp m9 (b6 2) (dC (.int 1)))) (b5 (dOp pIx (b6 0) (b6 2)) d7))))) (m5 (dOp m9 (b6 2) (dC (.int 1)))) o0)
  (m5 (b6 2))))
def a3I:DSp:=fun ds h Q=>∃ (j:Nat) (T:Tb) (xs:List Nat) (k:Nat),ds=[.ref j,nD k]/\h[j]?=some (.lst (xs.map (hD T)))/\k < 20000000/\Q (nD (lsb (ltT T) xs k)) h
theorem b3W:∀ ds h Q,a3I ds h Q->i7 3 b0r ds h Q:=by
 rintro ds h Q ⟨j,T,xs,k,rfl,e,hk,q⟩
 delta i7 b0r;simp only [VS];left;simp only [VV];refine ⟨a6b (by right),?_⟩;rw [show (2:Int) * (k:Int) + 1=((2 * k + 1:Nat):Int) by right];subst hN;left;have e2:((2 * k + 1:Nat):Int) + 1=((2 * k + 2:Nat):Int):=by right
 simp only [y0 (l7 e),List.length_map,e2,VV]
 by_cases c1:2 * k + 2 < xs.length
 ·have d1:decide (((2 * k + 2:Nat):Int) < (xs.length:Int))=true:=decide_eq_true (by right);simp only [d1,A6 (l7 e),R8 T xs _ c1,R8 T xs _ (show 2 * k + 1 < xs.length by right),VV];refine ⟨_,_,_,_,_,_,rfl,?_⟩;have el:HT.lexLt [cst T (at0 xs (2 * k + 2)),((at0 xs (2 * k + 2):Nat):Int)] [cst T (at0 xs (2 * k + 1)),((at0 xs (2 * k + 1):Nat):Int)]=ltT T (at0 xs (2 * k + 2)) (at0 xs (2 * k + 1)):=rfl;rw [el]
  cases c:ltT T (at0 xs (2 * k + 2)) (at0 xs (2 * k + 1)) with
  |true =>
   simp only [e2,VV];unfold lsb at q;rw [if_pos ⟨c1,c⟩] at q;exact q
  |false =>
   simp only [VV];subst hN;simp only [VV];unfold lsb at q;rw [if_neg fun z=>by rw [c] at z;cases z.2] at q;exact q
 ·have d1:decide (((2 * k + 2:Nat):Int) < (xs.length:Int))=false:=decide_eq_false (by right);simp only [d1,VV];subst hN;simp only [VV];unfold lsb at q;rw [if_neg fun z=>c1 z.1] at q;exact q
theorem b8H{f:Addr}{fd:FuncData}(F:Fun K "lesser_below" "lesser_below" b0E f fd)(T:Txt P w K mg)(C_q42:Cal P w K mg base 1 "is_ahead" ["one","other"] (spD K 2 Y6)):l9 P w K mg base CX0 2 f fd ["heap","k"] (spD K 2 a3I) :=
 l8 (k:=1) (b:=b0r) F sc_q44 (fun cdv A outer s H E hr=>by
  refine b9 ?_ ?_
  ·exact i5 (i:=2) sc_q44.nd rfl (Or.inl rfl) (d8 j1 (d8 C5 b7 (sv 1)) b7)
  refine b9 ?_ (c8 (j2 (sv 2)));refine v8 ?_ (c8 (j2 (d8 j1 (sv 2) b7))) j9;exact W7 (V7 (i9 F0 (d8 j1 (sv 2) b7) (k7 y6 rfl T.b_len PySem.boot_len (b4 (sv 0) b8))) (P4 (A8 (f8 C_q42 (hr.mono (by decide)) rfl (b4 (c5 c4 (sv 0) (d8 j1 (sv 2) b7)) (b4 (c5 c4 (sv 0) (sv 2)) b8))))))) b3W
def b0B:DS:=(f7 (j0 (dC (.int 0)) (c9 1))
  (f7 (j0 (dOp pIx (b6 0) (dC (.int 0))) (c9 2))
  (f7 (j0 (j8 a3I (b5 (b6 0) (b5 (dC (.int 0)) d7))) (c9 3))
  (f7 (V3 (a3K (n5 (dOp Y8 (b6 3) (dCB H9 (b5 (b6 0) d7)))) (dTr (j8 Y6 (b5 (dOp pIx (b6 0) (b6 3)) (b5 (b6 2) d7))))) (f7 (j0 (dOp pIx (b6 0) (b6 3)) (a0t (b6 0) (b6 1)))
  (f7 (j0 (b6 3) (c9 1))
  (j0 (j8 a3I (b5 (b6 0) (b5 (b6 1) d7))) (c9 3)))))
  (j0 (b6 2) (a0t (b6 0) (b6 1)))))))
def a4x:DSp:=fun ds h Q=>∃ (j:Nat) (T:Tb) (xs:List Nat),ds=[.ref j]/\h[j]?=some (.lst (xs.map (hD T)))/\0 < xs.length/\xs.length <= 10000000/\DnH (ltT T) xs 0/\∀ zs,zs.Perm xs->HP (ltT T) zs->Q .non (h.set j (.lst (zs.map (hD T))))
theorem b2p{lt:Nat->Nat->Bool}{xs:List Nat}{k v:Nat}(hk:k < xs.length):lsb lt (xs.set k v) k=lsb lt xs k:=by
 have e1:at0 (xs.set k v) (2 * k + 2)=at0 xs (2 * k + 2):=by rw [E3 _ _ _ _ hk,if_neg (by right)]
 have e2:at0 (xs.set k v) (2 * k + 1)=at0 xs (2 * k + 1):=by rw [E3 _ _ _ _ hk,if_neg (by right)]
 unfold lsb;rw [List.length_set,e1,e2]
theorem b2c:∀ ds h Q,a4x ds h Q->i7 4 b0B ds h Q:=by
 rintro ds h Q ⟨j,T,xs,rfl,e,h0,hb,dn,q⟩
 have hj:j < h.length:=(List.getElem?_eq_some_iff.mp e).1;delta i7 b0B;simp only [VS];left;simp only [VV];subst hN;left;have ix0:atI (xs.map (hD T)) (0:Int)=some (hD T (at0 xs 0)):=R8 T xs 0 h0;simp only [A6 (l7 e),ix0,VV];subst hN;left;simp only [VV];refine ⟨j,T,xs,0,rfl,e,by right,?_⟩;subst hN;left;refine U5 (fun m δ h'=>∃ (k v:Nat) (ys:List Nat),m=xs.length - k/\δ=[some (.ref j),some (nD k),some (hD T v),some (nD (lsb (ltT T) ys k))]/\h'=h.set j (.lst (ys.map (hD T)))/\k < ys.length/\ys.length=xs.length/\(ys.set k v).Perm xs/\DnH (ltT T) (ys.set k v) k) (m:=xs.length) ⟨0,at0 xs 0,xs,rfl,rfl,(a0f e).symm,h0,rfl,?_,?_⟩ ?_
 ·rw [<- C1 h0,List.set_getElem_self]
 ·rw [<- C1 h0,List.set_getElem_self];exact dn
 ·rintro m δ h' N1 ⟨k,v,ys,rfl,rfl,rfl,hk,hl,pm,u⟩ hN1
  have ej:(h.set j (O.lst (ys.map (hD T))))[j]?=some (.lst (ys.map (hD T))):=List.getElem?_set_self hj
  have fin:HP (ltT T) (ys.set k v)->N [some (.ref j),some (nD k),some (hD T v),some (nD (lsb (ltT T) ys k))] (h.set j (O.lst (ys.map (hD T)))):=by
   intro hp;subst hN;simp only [ej,List.length_map,U3 hk,a0E,List.set_set,VV];exact q _ pm hp
  have zm:at0 (ys.set k v) k=v:=by rw [E3 _ _ _ _ hk,if_pos rfl]
  have lb:=b2p (lt:=ltT T) (v:=v) hk;have hor:=a8U (lt:=ltT T) ys k;have done:=u.done (b4n T);have stp:=u.step (b4n T);rw [lb,zm] at done stp;generalize lsb (ltT T) ys k=b at *;have zb:at0 (ys.set k v) b=at0 ys b:=by rw [E3 _ _ _ _ hk,if_neg (by right)]
  rw [zb] at done stp;rw [List.length_set] at done stp;simp only [y0 (l7 ej),List.length_map,VV]
  by_cases hb':b < ys.length
  ·have d0:decide ((b:Int) < (ys.length:Int))=true:=decide_eq_true (by right);simp only [d0,A6 (l7 ej),R8 T ys _ hb',VV];refine ⟨_,_,_,_,_,_,rfl,?_⟩;have el:HT.lexLt [cst T (at0 ys b),((at0 ys b:Nat):Int)] [cst T v,(v:Int)]=ltT T (at0 ys b) v:=rfl;rw [el]
   cases c:ltT T (at0 ys b) v with
   |false =>
    simp only [VV];exact fin (done (.inr c))
   |true =>
    have sw:Y9 (ys.set k v) k b=(ys.set k (at0 ys b)).set b v:=by unfold Y9;rw [zm,zb,List.set_set]
    have pm2:=(a1p (zs:=ys.set k v) (k:=k) (j:=b) (by simpa using hk) (by simpa using hb') (by right)).trans pm;have u2:=stp hb' c;rw [sw] at pm2 u2;simp only [VV]
    (try dsimp only);refine J9 fun N2 hN2=>?_;simp only [A6 (l7 ej),R8 T ys _ hb',ej,List.length_map,U3 hk,a0E,List.set_set,VV];subst hN2
    (try dsimp only);refine J9 fun N2 hN2=>?_;simp only [VV];subst hN2;simp only [VV];refine ⟨j,T,ys.set k (at0 ys b),b,rfl,List.getElem?_set_self hj,by right,?_⟩;exact hN1 (xs.length - b) _ _ (by right) ⟨b,v,_,rfl,rfl,rfl,by simpa using hb',by simpa using hl,pm2,u2⟩
  ·have d0:decide ((b:Int) < (ys.length:Int))=false:=decide_eq_false (by right);simp only [d0,VV];exact fin (done (.inl (by right)))
theorem b7z{f:Addr}{fd:FuncData}(F:Fun K "sink" "sink" a8A f fd)(T:Txt P w K mg)(C_q44:Cal P w K mg base 2 "lesser_below" ["heap","k"] (spD K 2 a3I))(C_q42:Cal P w K mg base 1 "is_ahead" ["one","other"] (spD K 2 Y6)):l9 P w K mg base CX0 3 f fd ["heap"] (spD K 1 a4x) :=
 l8 (k:=2) (b:=b0B) F sc_q48 (fun cdv A outer s H E hr=>by
  refine b9 ?_ ?_
  ·exact i5 (i:=1) sc_q48.nd rfl (Or.inl rfl) b7
  refine b9 ?_ ?_
  ·exact i5 (i:=2) sc_q48.nd rfl (Or.inl rfl) (c5 c4 (sv 0) b7)
  refine b9 ?_ ?_
  ·exact i5 (i:=3) sc_q48.nd rfl (Or.inl rfl) (f8 C_q44 (hr.mono (by decide)) rfl (b4 (sv 0) (b4 b7 b8)))
  refine b9 ?_ (c8 (N0 (sv 2) (O6 (sv 0) (sv 1))));refine Z7 PassesOwn.never ?_ ?_
  ·exact W7 (V7 (i9 F0 (sv 3) (k7 y6 rfl T.b_len PySem.boot_len (b4 (sv 0) b8))) (P4 (A8 (f8 C_q42 (hr.mono (by decide)) rfl (b4 (c5 c4 (sv 0) (sv 3)) (b4 (sv 2) b8))))))
  refine b9 (N0 (c5 c4 (sv 0) (sv 3)) (O6 (sv 0) (sv 1))) ?_;refine b9 ?_ ?_
  ·exact i5 (i:=1) sc_q48.nd rfl (Or.inl rfl) (sv 3)
  refine c8 ?_;exact i5 (i:=3) sc_q48.nd rfl (Or.inl rfl) (f8 C_q44 (hr.mono (by decide)) rfl (b4 (sv 0) (b4 (sv 1) b8)))) b2c
def a8z:DS:=(f7 (y9 (B7 (dUn (p8 "Queue" "heap") (b6 0)) (b5 (u0 (b5 (b6 1) (b5 (dUn (p8 "Queue" "puts") (b6 0)) (b5 (b6 2) d7)))) d7)))
  (f7 (b4G "Queue" "puts" (b6 0) (dC (.int 1)) (pI0 fun i j=>i + j))
  (y9 (j8 a5v (b5 (dUn (p8 "Queue" "heap") (b6 0)) d7)))))
def a7U:DSp:=fun ds h Q=>∃ (i j:Nat) (c:Int) (t:D) (T:Tb) (hs:List Nat),ds=[.ref i,.int c,t]/\h[i]?=some (qO j T.length)/\h[j]?=some (.lst (hs.map (hD T)))/\(∀ n ∈ hs,n < T.length)/\HP (ltT T) hs/\hs.length < 10000000 /\
 ∀ hs',hs'.Perm (hs ++ [T.length])->HP (ltT (T ++ [(c,t)])) hs'->Q .non ((h.set i (qO j (T.length + 1))).set j (.lst (hs'.map (hD (T ++ [(c,t)])))))
theorem b7k:∀ ds h Q,a7U ds h Q->i7 3 a8z ds h Q:=by
 rintro ds h Q ⟨i,j,c,t,T,hs,rfl,ei,ej,hl,hp,hb,q⟩
 have hi:i < h.length:=(List.getElem?_eq_some_iff.mp ei).1;have hj:j < h.length:=(List.getElem?_eq_some_iff.mp ej).1;have ne:i ≠ j:=fun z=>by subst z;rw [ei] at ej;cases ej
 have en:hs.map (hD T) ++ [.tup [.int c,nD T.length,t]]=(hs ++ [T.length]).map (hD (T ++ [(c,t)])):=by
  rw [List.map_append,b5Y hl,List.map_singleton,b5N]
 delta i7 a8z;simp only [VS];left;simp only [N9 ei,b6N ei,ej,List.length_map,VV0];refine ⟨by right,?_⟩;rw [en];subst hN;left;have ei2:(h.set j (O.lst ((hs ++ [T.length]).map (hD (T ++ [(c,t)])))))[i]?=some (qO j T.length):=by rw [List.getElem?_set_ne (Ne.symm ne)];exact ei
 have ei3:=u6 ei2;have lk:([(Str.ofString "heap",D.ref j),(Str.ofString "puts",nD T.length)]:List (Str×D)).lookup (Str.ofString "puts")=some (nD T.length):=rfl;have ei4:(h.set j (O.lst ((hs ++ [T.length]).map (hD (T ++ [(c,t)])))))[i]?=some (.ins "Queue" [("heap",.ref j),("puts",nD T.length)]):=ei2
 have pa:putA (Str.ofString "puts") (nD (T.length + 1)) [(Str.ofString "heap",D.ref j),(Str.ofString "puts",nD T.length)]=[(Str.ofString "heap",D.ref j),(Str.ofString "puts",nD (T.length + 1))]:=by
  show (if _ then _ else _ :: (if _ then _ else _))=_;rw [if_neg (by decide +kernel),if_pos rfl]
 simp only [ei3,lk,ei4,VV];refine ⟨⟨trivial,by simp⟩,?_⟩;rw [show (T.length:Int) + 1=((T.length + 1:Nat):Int) by right,pa];subst hN;have e5:((h.set j (O.lst ((hs ++ [T.length]).map (hD (T ++ [(c,t)]))))).set i (.ins "Queue" [("heap",.ref j),("puts",nD (T.length + 1))]))[i]?=some (qO j (T.length + 1)):=List.getElem?_set_self (by simpa using hi);simp only [N9 e5,VV0];refine ⟨j,T ++ [(c,t)],hs ++ [T.length],rfl,?_,by simp,by simp;omega,?_,fun zs p hz=>?_⟩
 ·rw [List.getElem?_set_ne ne,List.getElem?_set_self hj]
 ·rw [show (hs ++ [T.length]).length - 1=hs.length by simp];exact (hp.app hl).up _
 ·rw [List.set_comm _ _ (Ne.symm ne),List.set_set];exact q zs p hz
theorem c0r{f:Addr}{fd:FuncData}(F:Fun K "put" "Queue.put" a2A f fd)(T:Txt P w K mg)(C_q46:Cal P w K mg base 2 "rise" ["heap"] (spD K 1 a5v)):l9 P w K mg base CX0 3 f fd ["self","cost","thing"] (spD K 3 a7U) :=
 l8 (k:=2) (b:=a8z) F b9F (fun cdv A outer s H E hr=>by
  refine b9 ?_ ?_
  ·refine t9 ?_;exact v9 (m7 T.f_heap (sv 0)) (b4 (j4 (b4 (sv 1) (b4 (m7 T.f_puts (sv 0)) (b4 (sv 2) b8)))) b8)
  refine b9 (a9z T.f_puts (sv 0) b7 b3n) ?_;exact c8 (t9 (f8 C_q46 (hr.mono (by decide)) rfl (b4 (m7 T.f_heap (sv 0)) b8)))) b7k
def a8c:DS:=(f7 (v7 (n5 (dOp (pEq false) (dCB H9 (b5 (dUn (p8 "Queue" "heap") (b6 0)) d7)) (dC (.int 0)))) (m5 (dC .non)) o0)
  (f7 (j0 (dOp pIx (dUn (p8 "Queue" "heap") (b6 0)) (dC (.int 0))) (c9 1))
  (f7 (j0 (c0E (dUn (p8 "Queue" "heap") (b6 0))) (c9 2))
  (f7 (v7 (n5 (dOp pGt (dCB H9 (b5 (dUn (p8 "Queue" "heap") (b6 0)) d7)) (dC (.int 0)))) (f7 (j0 (b6 2) (a0t (dUn (p8 "Queue" "heap") (b6 0)) (dC (.int 0))))
  (y9 (j8 a4x (b5 (dUn (p8 "Queue" "heap") (b6 0)) d7)))) o0)
  (m5 (u0 (b5 (dOp pIx (b6 1) (dC (.int 0))) (b5 (dOp pIx (b6 1) (dC (.int 2))) d7))))))))
def a3B:DSp:=fun ds h Q=>∃ (i j n:Nat) (T:Tb) (hs:List Nat),ds=[.ref i]/\h[i]?=some (qO j n)/\h[j]?=some (.lst (hs.map (hD T)))/\HP (ltT T) hs/\hs.length <= 10000000 /\
 (hs=[]->Q .non h)/\(0 < hs.length->∀ hs',(at0 hs 0 :: hs').Perm hs->HP (ltT T) hs'->Q (sD T (at0 hs 0)) (h.set j (.lst (hs'.map (hD T)))))
theorem b7J:∀ ds h Q,a3B ds h Q->i7 3 a8c ds h Q:=by
 rintro ds h Q ⟨i,j,n,T,hs,rfl,ei,ej,hp,hb,q0,q1⟩
 have hi:i < h.length:=(List.getElem?_eq_some_iff.mp ei).1;have hj:j < h.length:=(List.getElem?_eq_some_iff.mp ej).1;have ne:i ≠ j:=fun z=>by subst z;rw [ei] at ej;cases ej
 delta i7 a8c;simp only [VS];left;simp only [N9 ei,y0 (l7 ej),List.length_map,VV0]
 by_cases h0:hs=[]
 ·have d0:((hs.length:Int) == 0)=true:=by rw [h0];rfl
  simp only [d0,VV];exact q0 h0
 ·have hl:0 < hs.length:=List.length_pos_iff.mpr h0;have d0:((hs.length:Int) == 0)=false:=beq_eq_false_iff_ne.mpr (by right);have q1:=q1 hl;simp only [d0,VV];subst hN;left;have ix0:atI (hs.map (hD T)) (0:Int)=some (hD T (at0 hs 0)):=R8 T hs 0 hl;simp only [N9 ei,A6 (l7 ej),ix0,VV0];subst hN;left
  have lst:(hs.map (hD T))[(hs.map (hD T)).length - 1]?=some (hD T (at0 hs (hs.length - 1))):=by
   rw [List.length_map,List.getElem?_map,List.getElem?_eq_getElem (show hs.length - 1 < hs.length by right),C1];rfl
  simp only [N9 ei,ej,lst,VV0];rw [<- List.map_dropLast];have ei2:(h.set j (O.lst (hs.dropLast.map (hD T))))[i]?=some (qO j n):=by rw [List.getElem?_set_ne (Ne.symm ne)];exact ei
  have ej2:(h.set j (O.lst (hs.dropLast.map (hD T))))[j]?=some (.lst (hs.dropLast.map (hD T))):=List.getElem?_set_self hj;subst hN;left;simp only [N9 ei2,y0 (l7 ej2),List.length_map,List.length_dropLast,VV0]
  by_cases h1:1 < hs.length
  ·have d1:decide ((0:Int) < ((hs.length - 1:Nat):Int))=true:=decide_eq_true (by right);simp only [d1,VV]
   (try dsimp only);refine J9 fun N2 hN2=>?_;have hd0:0 < hs.dropLast.length:=by rw [List.length_dropLast];omega
   have i0:=U3 hd0;rw [List.length_dropLast] at i0;have i0:ixN (hs.length - 1) (0:Int)=some 0:=i0;simp only [N9 ei2,ej2,List.length_map,List.length_dropLast,i0,a0E,List.set_set,VV0];have ei3:(h.set j (O.lst ((hs.dropLast.set 0 (at0 hs (hs.length - 1))).map (hD T))))[i]?=some (qO j n):=by rw [List.getElem?_set_ne (Ne.symm ne)];exact ei
   subst hN2;simp only [N9 ei3,VV0];refine ⟨j,T,_,rfl,List.getElem?_set_self hj,by simp;omega,by simp;omega,hp.dn _ h1,fun zs p hz=>?_⟩;rw [List.set_set];subst hN;simp only [VV];refine q1 zs ?_ hz
   obtain ⟨x,r,v,rfl⟩:∃ x r v,hs=x :: r ++ [v]:=by
    cases hs with
    |nil=>exact absurd rfl h0
    |cons x r =>
     have:r ≠ []:=by intro z;subst z;simp at h1
     exact ⟨x,r.dropLast,r.getLast this,by rw [List.cons_append,List.dropLast_concat_getLast]⟩
   have ev:at0 (x :: r ++ [v]) ((x :: r ++ [v]).length - 1)=v:=by
    unfold at0;rw [List.getD_eq_getElem?_getD]
    simp
   rw [ev] at p;exact a5U p
  ·have d1:decide ((0:Int) < ((hs.length - 1:Nat):Int))=false:=decide_eq_false (by right);simp only [d1,VV];subst hN;simp only [VV];obtain ⟨x,rfl⟩:=List.length_eq_one_iff.mp (show hs.length=1 by right);exact q1 [] (.refl _) fun i _ h=>absurd h (Nat.not_lt_zero _)
theorem b9j{f:Addr}{fd:FuncData}(F:Fun K "take" "Queue.take" a1S f fd)(T:Txt P w K mg)(C_q48:Cal P w K mg base 3 "sink" ["heap"] (spD K 1 a4x)):l9 P w K mg base CX0 4 f fd ["self"] (spD K 1 a3B) :=
 l8 (k:=3) (b:=a8c) F sc_q5 (fun cdv A outer s H E hr=>by
  refine b9 ?_ ?_
  ·refine v8 ?_ (c8 (j2 n8)) j9;exact i9 (z9 hr.units) (k7 y6 rfl T.b_len PySem.boot_len (b4 (m7 T.f_heap (sv 0)) b8)) b7
  refine b9 ?_ ?_
  ·exact i5 (i:=1) sc_q5.nd rfl (Or.inl rfl) (c5 c4 (m7 T.f_heap (sv 0)) b7)
  refine b9 ?_ ?_
  ·exact i5 (i:=2) sc_q5.nd rfl (Or.inl rfl) (b5t (m7 T.f_heap (sv 0)))
  refine b9 ?_ ?_
  ·refine v8 ?_ ?_ j9
   ·exact i9 a0G (k7 y6 rfl T.b_len PySem.boot_len (b4 (m7 T.f_heap (sv 0)) b8)) b7
   refine b9 (N0 (sv 2) (O6 (m7 T.f_heap (sv 0)) b7)) ?_;exact c8 (t9 (f8 C_q48 (hr.mono (by decide)) rfl (b4 (m7 T.f_heap (sv 0)) b8)))
  refine c8 ?_;refine j2 ?_;refine j4 (n:=2) ?_;exact b4 (c5 c4 (sv 1) b7) (b4 (c5 c4 (sv 1) b7) b8)) b7J
def a7X:DS:=(f7 (M7 "Offers" "queue" (b6 0) (a1i "Queue" a8e d7))
  (M7 "Offers" "least" (b6 0) a1B))
def b0R:DSp:=fun ds h Q=>∃ i,ds=[.ref i]/\h[i]?=some (.ins "Offers" [])/\Q .non (h.set i (.ins "Offers" [("queue",.ref h.length),("least",.ref (h.length + 2))]) ++ [qO (h.length + 1) 0,.lst [],.dT none []])
theorem b8U:∀ ds h Q,b0R ds h Q->i7 1 a7X ds h Q:=by
 rintro ds h Q ⟨i,rfl,e,q⟩
 have hi:i < h.length:=(List.getElem?_eq_some_iff.mp e).1;delta i7 a7X;simp only [VS];left;simp only [VV];refine ⟨h.length,rfl,B3 _ _,rfl,?_⟩
 have e1:((h ++ [O.ins "Queue" []]).set h.length (qO (h ++ [O.ins "Queue" []]).length 0) ++ [O.lst []])=h ++ [qO (h.length + 1) 0,.lst []]:=by
  rw [List.set_append_right _ _ (Nat.le_refl _),Nat.sub_self,List.length_append,List.length_singleton];show (h ++ [qO (h.length + 1) 0]) ++ [O.lst []]=_;rw [List.append_assoc];rfl
 rw [e1];have e2:(h ++ [qO (h.length + 1) 0,.lst []])[i]?=some (.ins "Offers" []):=by rw [List.getElem?_append_left hi];exact e
 simp only [e2,VV];refine ⟨⟨trivial,by decide⟩,?_⟩;subst hN;rw [List.set_append_left _ _ hi]
 have e3:(h.set i (O.ins "Offers" (putA "queue" (.ref h.length) [])) ++ [qO (h.length + 1) 0,.lst []] ++ [O.dT none []])[i]?=some (.ins "Offers" (putA "queue" (.ref h.length) [])):=by
  rw [List.getElem?_append_left (by simp;omega),List.getElem?_append_left (by simpa using hi),List.getElem?_set_self hi]
 have l3:(h.set i (O.ins "Offers" (putA "queue" (.ref h.length) [])) ++ [qO (h.length + 1) 0,O.lst []]).length=h.length + 2:=by simp
 simp only [e3,l3,VV];refine ⟨⟨trivial,show 1 < 1000 by decide⟩,?_⟩;rw [List.append_assoc,List.set_append_left _ _ (by simpa using hi),List.set_set];exact q
theorem b9B{f:Addr}{fd:FuncData}(F:Fun K "__init__" "Offers.__init__" a2o f fd)(T:Txt P w K mg)(M_Queue:W9 P w K mg base 1 "Queue" ["self"] (spD K 1 a8e)):l9 P w K mg base CX0 3 f fd ["self"] (spD K 1 b0R) :=
 l8 (k:=2) (b:=a7X) F c0h (fun cdv A outer s H E hr=>by
  exact b9 (Q1 T.f_queue (sv 0) (a2U M_Queue (hr.mono (by decide)) rfl))     (c8 (Q1 T.f_least (sv 0) T3))) b8U
def b0p:DS:=(f7 (M7 "Search" "chart" (b6 0) (b6 1))
  (f7 (M7 "Search" "offers" (b6 0) (a1i "Offers" b0R d7))
  (f7 (M7 "Search" "rows" (b6 0) (dTk d7))
  (f7 (M7 "Search" "found" (b6 0) a1B)
  (f7 (M7 "Search" "calls" (b6 0) a1B)
  (M7 "Search" "ends" (b6 0) a1B))))))
def a8X:DSp:=fun ds h Q=>∃ i C,ds=[.ref i,cD C]/\h[i]?=some (.ins "Search" [])/\Q .non (h.set i (.ins "Search" [("chart",cD C),("offers",.ref h.length),("rows",.ref (h.length + 4)),("found",.ref (h.length + 5)),("calls",.ref (h.length + 6)),("ends",.ref (h.length + 7))]) ++ [.ins "Offers" [("queue",.ref (h.length + 1)),("least",.ref (h.length + 3))],qO (h.length + 2) 0,.lst [],.dT none [],.lst [],.dT none [],.dT none [],.dT none []])
theorem b8p:∀ ds h Q,a8X ds h Q->i7 2 b0p ds h Q:=by
 rintro ds h Q ⟨i,C,rfl,e,q⟩
 have hi:i < h.length:=(List.getElem?_eq_some_iff.mp e).1;have gs:∀ (o:O) (l:Hh),(h.set i o ++ l)[i]?=some o:=fun o l=>by rw [List.getElem?_append_left (by simpa using hi),List.getElem?_set_self hi]
 have st:∀ (o o':O) (l:Hh),(h.set i o ++ l).set i o'=h.set i o' ++ l:=fun o o' l=>by rw [List.set_append_left _ _ (by simpa using hi),List.set_set]
 have ln:∀ (o:O) (l:Hh),(h.set i o ++ l).length=h.length + l.length:=fun o l=>by rw [List.length_append,List.length_set]
 have sk:∀ (o x:O) (l:Hh),h.set i o ++ l ++ [x]=h.set i o ++ (l ++ [x]):=fun o x l=>List.append_assoc ..;delta i7 b0p;simp only [VS];left;simp only [e,VV];refine ⟨⟨trivial,by decide⟩,?_⟩;subst hN;left;simp only [VV];have a0:∀ o:O,h.set i o=h.set i o ++ []:=fun o=>(List.append_nil _).symm;rw [a0,sk,ln];refine ⟨h.length,rfl,?_,rfl,?_⟩
 ·rw [List.getElem?_append_right (by simp),List.length_set,Nat.sub_self];rfl
 have e1:∀ (o:O),((h.set i o ++ ([] ++ [O.ins "Offers" []])).set h.length (O.ins "Offers" [("queue",.ref (h.set i o ++ ([] ++ [O.ins "Offers" []])).length),("least",.ref ((h.set i o ++ ([] ++ [O.ins "Offers" []])).length + 2))]) ++ [qO ((h.set i o ++ ([] ++ [O.ins "Offers" []])).length + 1) 0,.lst [],.dT none []])=h.set i o ++ [.ins "Offers" [("queue",.ref (h.length + 1)),("least",.ref (h.length + 3))],qO (h.length + 2) 0,.lst [],.dT none []]:=fun o=>by
  rw [List.set_append_right _ _ (by simp),List.length_set,Nat.sub_self,ln,List.append_assoc];rfl
 rw [e1];simp only [gs,VV];refine ⟨⟨trivial,show 1 < 1000 by decide⟩,?_⟩;rw [st];subst hN;left;simp only [sk,gs,ln,st,VV];refine ⟨⟨trivial,show 2 < 1000 by decide⟩,?_⟩;subst hN;left;simp only [sk,gs,ln,st,VV];refine ⟨⟨trivial,show 3 < 1000 by decide⟩,?_⟩;subst hN;left;simp only [sk,gs,ln,st,VV];refine ⟨⟨trivial,show 4 < 1000 by decide⟩,?_⟩;subst hN;simp only [sk,gs,ln,st,VV];refine ⟨⟨trivial,show 5 < 1000 by decide⟩,?_⟩;exact q
theorem b9U{f:Addr}{fd:FuncData}(F:Fun K "__init__" "Search.__init__" a1K f fd)(T:Txt P w K mg)(M_Offers:W9 P w K mg base 3 "Offers" ["self"] (spD K 1 b0R)):l9 P w K mg base CX0 5 f fd ["self","chart"] (spD K 2 a8X) :=
 l8 (k:=4) (b:=b0p) F c0y (fun cdv A outer s H E hr=>by
  refine b9 (Q1 T.f_chart (sv 0) (sv 1)) ?_;refine b9 (Q1 T.f_offers (sv 0) (a2U M_Offers (hr.mono (by decide)) rfl)) ?_;refine b9 (Q1 T.f_rows (sv 0) (Z2 (r9 b8))) ?_;refine b9 (Q1 T.f_found (sv 0) T3) ?_;exact b9 (Q1 T.f_calls (sv 0) T3)     (c8 (Q1 T.f_ends (sv 0) T3))) b8p
def a9A:DS:=(v7 (dOr (n5 (dOp (a9y true) (b6 2) (dUn (p8 "Offers" "least") (b6 0)))) (n5 (dOp Y8 (b6 1) (a0C (dUn (p8 "Offers" "least") (b6 0)) (b6 2))))) (f7 (a5M (dUn (p8 "Offers" "least") (b6 0)) (b6 2) (b6 1))
  (y9 (C3 "Queue" "put" a7U (dUn (p8 "Offers" "queue") (b6 0)) (b5 (b6 1) (b5 (u0 (b5 (b6 2) (b5 (b6 3) d7))) d7))))) o0)
def a2k:DSp:=fun ds h Q=>∃ (h0:Hh) (C:d9) (zr:P5) (s:Se) (c:Nat) (k:Ky) (r:Row),ds=[.ref (h0.length + 1),nD c,tkD k.t,rD r]/\At h0 C zr s h/\s.L.length < 16777216/\s.pd.length < 10000000/\(∀ n ∈ s.pd,n < s.T.length)/\∀ h',At h0 C zr (offer s (c,k,r)) h'->Q .non h'
theorem b6H:∀ ds h Q,a2k ds h Q->i7 4 a9A ds h Q:=by
 rintro ds h Q ⟨h0,C,zr,s,c,k,r,rfl,a,hL,hP,hl,q⟩
 delta i7 a9A;simp only [VS]
 (try dsimp only);refine q8 fun A1 B1 hA hB=>?_
 have put:¬ met s.L (k.t,c)=true->A1 [some (.ref (h0.length + 1)),some (nD c),some (tkD k.t),some (rD r)] h:=by
  intro nm;have eo:offer s (c,k,r)={ s with T:=s.T ++ [(c,k,r)],pd:=s.pd ++ [s.T.length],L:=A2 s.L k.t c }:=if_neg nm;subst hA;left;simp only [W4 a.of,VV0];refine a1N a.least hL ?_;obtain ⟨hs,rfl,pm,hp,dc,de⟩:=a.ex;rw [L0];have g:∀ (j:Nat) (o:O),(stH h0.length C { s with L:=A2 s.L k.t c } hs zr.kc zr.ke ++ A7 zr.y)[j]?=some o->(h0 ++ (stH h0.length C { s with L:=A2 s.L k.t c } hs zr.kc zr.ke ++ A7 zr.y))[h0.length + j]?=some o:=fun j o e=>by rw [B5];exact e
  have e1:=g 1 _ rfl;have e2:=g 2 _ rfl;have e3:=g 3 _ rfl;subst hN;have ee:(stH h0.length C s hs zr.kc zr.ke ++ A7 zr.y).set 4 (.dT none (tbD (A2 s.L k.t c)))=stH h0.length C { s with L:=A2 s.L k.t c } hs zr.kc zr.ke ++ A7 zr.y:=rfl;rw [ee];simp only [V2 e1,VV3];refine ⟨b5j e2 rfl,h0.length + 2,h0.length + 3,c,.tup [tkD k.t,rD r],V5 s.T,hs,rfl,by rw [T1];exact e2,e3,fun n hn=>by rw [T1];exact hl n (pm.mem_iff.mp hn),hp,by rw [pm.length_eq];exact hP,fun hs' p hz=>?_⟩;rw [L0,L0];refine q _ ⟨hs',?_,?_,?_,?_,?_⟩
  ·rw [eo,T1];show h0 ++ (stH h0.length C { s with L:=A2 s.L k.t c } hs zr.kc zr.ke ++ A7 zr.y |>.set 2 _ |>.set 3 _)=h0 ++ (stH h0.length C _ hs' zr.kc zr.ke ++ A7 zr.y);unfold stH;rw [a2H,List.length_append];rfl
  ·rw [eo];rw [T1] at p;exact p.trans (pm.append_right _)
  ·rw [eo];show HP (ltT (V5 (s.T ++ [(c,k,r)]))) hs';rw [a2H];exact hz
  ·rw [eo];exact dc
  ·rw [eo];exact de
 have stay:met s.L (k.t,c)=true->B1 [some (.ref (h0.length + 1)),some (nD c),some (tkD k.t),some (rD r)] h:=by
  intro m;subst hB;have eo:offer s (c,k,r)=s:=if_pos m;simp only [VV];exact q _ (by rw [eo];exact a)
 simp only [W4 a.of,VV0];refine G9 a.least ?_
 cases e:look s.L k.t with
 |none =>
  refine put ?_;unfold met;rw [e];exact Bool.false_ne_true
 |some c' =>
  refine a0w (G9 a.least ?_);rw [e];refine ⟨_,rfl,?_⟩
  by_cases z:c < c'
  ·have d1:decide ((c:Int) < (c':Int))=true:=decide_eq_true (Int.ofNat_lt.mpr z);simp only [d1,VV];refine put ?_;rw [met_iff]
   rintro ⟨c2,e2,h2⟩
   have e2:look s.L k.t=some c2:=e2;rw [e] at e2;cases e2;have h2:c' <= c:=h2;omega
  ·have d1:decide ((c:Int) < (c':Int))=false:=decide_eq_false (by right);simp only [d1,VV];exact stay (met_iff.mpr ⟨c',e,by right⟩)
theorem c0M{f:Addr}{fd:FuncData}(F:Fun K "offer" "Offers.offer" a1X f fd)(T:Txt P w K mg)(C_q4:D8 P w K mg base 3 "Queue" "put" ["self","cost","thing"] (spD K 3 a7U)):l9 P w K mg base CX0 4 f fd ["self","cost","key","row"] (spD K 4 a2k) :=
 l8 (k:=3) (b:=a9A) F b9Q (fun cdv A outer s H E hr=>by
  refine c8 ?_;refine v8 ?_ ?_ j9
  ·exact W7 (T4 (i9 (a4U hr.units) (sv 2) (m7 T.f_least (sv 0)) rfl) (Q5 (i9 F0 (sv 1) (O7 hr.units (m7 T.f_least (sv 0)) (sv 2)))))
  refine b9 (a4h hr.units (m7 T.f_least (sv 0)) (sv 2) (sv 1)) ?_;refine c8 ?_;refine t9 ?_;exact D1 C_q4 (hr.mono (by decide)) (m7 T.f_queue (sv 0)) (b4 (sv 1) (b4 (j4 (b4 (sv 2) (b4 (sv 3) b8))) b8))) b6H
def a7E:DS:=(f7 (j0 (C3 "Queue" "take" a3B (dUn (p8 "Offers" "queue") (b6 0)) d7) (c9 1))
  (f7 (V3 (a3K (n5 (dOp (pIs true) (b6 1) (dC .non))) (n5 (dOp (pEq true) (dOp pIx (b6 1) (dC (.int 0))) (a0C (dUn (p8 "Offers" "least") (b6 0)) (dOp pIx (dOp pIx (b6 1) (dC (.int 1))) (dC (.int 0))))))) (j0 (C3 "Queue" "take" a3B (dUn (p8 "Offers" "queue") (b6 0)) d7) (c9 1)))
  (m5 (dIf (n5 (dOp (pIs false) (b6 1) (dC .non))) (dC .non) (u0 (b5 (dOp pIx (b6 1) (dC (.int 0))) (b5 (dOp pIx (dOp pIx (b6 1) (dC (.int 1))) (dC (.int 0))) (b5 (dOp pIx (dOp pIx (b6 1) (dC (.int 1))) (dC (.int 1))) d7))))))))
theorem b3u{h0 h:Hh}{C:d9}{zr:P5}{s:Se}{Q:DK}(wf:WF C)(a:At h0 C zr s h)(m:Mid C s)(q0:s.pd=[]->Q .non h)
  (q1:∀ (n:Nat) (x:Of) (h':Hh),n ∈ s.pd->s.T[n]?=some x->(∀ k ∈ s.pd,∀ y:Of,s.T[k]?=some y->x.1 <= y.1)->At h0 C zr (y8 s n) h'->Q (.tup [nD x.1,.tup [tkD x.2.1.t,rD x.2.2]]) h'):a3B [.ref (h0.length + 2)] h Q:=by
 obtain ⟨hs,rfl,pm,hp,dc,de⟩:=a.ex;refine ⟨h0.length + 2,h0.length + 3,s.T.length,V5 s.T,hs,rfl,by rw [B5];rfl,by rw [B5];rfl,hp,by rw [pm.length_eq];have:=m.Pfew wf;omega,fun z=>q0 ?_,fun hl hs' p hz=>?_⟩
 ·rw [z] at pm;exact List.nil_perm.mp pm
 ·have hn:at0 hs 0 ∈ s.pd:=pm.mem_iff.mp (a2x hl);have hlt:=m.pl _ hn;have ex:s.T[at0 hs 0]?=some s.T[at0 hs 0]:=List.getElem?_eq_getElem hlt;have es:sD (V5 s.T) (at0 hs 0) = .tup [nD s.T[at0 hs 0].1,.tup [tkD s.T[at0 hs 0].2.1.t,rD s.T[at0 hs 0].2.2]]:=by unfold sD;rw [a2b ex,b4z ex]
  rw [es,L0];refine q1 (at0 hs 0) _ _ hn ex (fun k hk y' ey=>?_) ⟨hs',rfl,?_,hz,dc,de⟩
  ·obtain ⟨i,hi,e⟩:=List.getElem_of_mem (pm.mem_iff.mpr hk);have r:=hp.root (b4n _) i hi;rw [<- C1 hi,e,Z6,a2b ey,a2b ex] at r;omega
  ·have:=(p.trans pm).erase (at0 hs 0)
   rw [List.erase_cons_head] at this;exact this
def a6e:DSp:=fun ds h Q=>∃ (h0:Hh) (C:d9) (zr:P5) (s:Se),ds=[.ref (h0.length + 1)]/\WF C/\At h0 C zr s h/\Full C s/\(∀ s' h',Full C s'->s'.I=s.I->s'.pd=[]->At h0 C zr s' h'->Q .non h') /\
 (∀ (s':Se) (n:Nat) (x:Of) (h':Hh),Full C s'->s'.I=s.I->n ∈ s'.pd->s'.T[n]?=some x->look s'.L x.2.1.t=some x.1->(∀ k ∈ s'.pd,∀ y:Of,s'.T[k]?=some y->x.1 <= y.1)->At h0 C zr (y8 s' n) h'->Q (.tup [nD x.1,tkD x.2.1.t,rD x.2.2]) h')
theorem b6g:∀ ds h Q,a6e ds h Q->i7 2 a7E ds h Q:=by
 rintro ds h Q ⟨h0,C,zr,s,rfl,wf,a,fu,q0,q1⟩
 have tk:∀ (s':Se) (h':Hh) (K:DK),At h0 C zr s' h'->Full C s'->(s'.pd=[]->K .non h')->(∀ (n:Nat) (x:Of) (h':Hh),n ∈ s'.pd->s'.T[n]?=some x->(∀ k ∈ s'.pd,∀ y:Of,s'.T[k]?=some y->x.1 <= y.1)->At h0 C zr (y8 s' n) h'->K (.tup [nD x.1,.tup [tkD x.2.1.t,rD x.2.2]]) h')->a1V "Queue" "take" h' (.ref (h0.length + 2))/\a3B [.ref (h0.length + 2)] h' K:=fun s' h' K a' f' k0 k1=>by
  refine ⟨?_,b3u wf a' f'.mid k0 k1⟩;obtain ⟨hs,rfl,_⟩:=a'.ex;exact b5j (j:=h0.length + 3) (n:=s'.T.length) (by rw [B5];rfl) rfl
 delta i7 a7E;simp only [VS];left;simp only [V2 a.of,VV3]
 have main:∀ m δ h',(((∃ s',Full C s'/\s'.I=s.I/\s'.pd=[]/\δ=[some (.ref (h0.length + 1)),some .non]/\At h0 C zr s' h')\/(∃ (s':Se) (n:Nat) (x:Of),Full C s'/\s'.I=s.I/\m=s'.pd.length/\n ∈ s'.pd/\s'.T[n]?=some x/\(∀ k ∈ s'.pd,∀ y:Of,s'.T[k]?=some y->x.1 <= y.1)/\δ=[some (.ref (h0.length + 1)),some (.tup [nD x.1,.tup [tkD x.2.1.t,rD x.2.2]])]/\At h0 C zr (y8 s' n) h')))->N δ h':=by
  subst hN;intro m0 δ0 h1 p0;left;refine U5 (fun m δ h'=>(∃ s',Full C s'/\s'.I=s.I/\s'.pd=[]/\δ=[some (.ref (h0.length + 1)),some .non]/\At h0 C zr s' h')\/(∃ (s':Se) (n:Nat) (x:Of),Full C s'/\s'.I=s.I/\m=s'.pd.length/\n ∈ s'.pd/\s'.T[n]?=some x/\(∀ k ∈ s'.pd,∀ y:Of,s'.T[k]?=some y->x.1 <= y.1)/\δ=[some (.ref (h0.length + 1)),some (.tup [nD x.1,.tup [tkD x.2.1.t,rD x.2.2]])]/\At h0 C zr (y8 s' n) h')) (m:=m0) p0 ?_
  rintro m δ h' N1 (⟨s',f',eI,pd,rfl,a'⟩ | ⟨s',n,x,f',eI,rfl,hn,ex,mn,rfl,a'⟩) hN1
  ·simp only [VV];subst hN;simp only [VV];exact q0 s' h' f' eI pd a'
  ·obtain ⟨c',e1,e2⟩:=f'.mid.tt n x ex;simp only [W4 a'.of,VV3];refine G9 a'.least ?_;rw [show look (y8 s' n).L x.2.1.t=some c' from e1];refine ⟨_,rfl,?_⟩
   by_cases z:x.1=c'
   ·have d1:((x.1:Int) == (c':Int))=true:=by rw [z];exact beq_self_eq_true _
    simp only [d1,VV];subst hN;simp only [VV];exact q1 s' n x h' f' eI hn ex (by rw [z];exact e1) mn a'
   ·have d1:((x.1:Int) == (c':Int))=false:=beq_eq_false_iff_ne.mpr (by right);simp only [d1,V2 a'.of,VV3];have f2:=a4q f' ex (fun w=>z (Option.some.inj (w.symm.trans e1)))
    have l2:(y8 s' n).pd.length + 1=s'.pd.length:=by
     show (s'.pd.erase n).length + 1=_;rw [List.length_erase_of_mem hn]
     have:=List.length_pos_of_mem hn
     omega
    refine tk (y8 s' n) h' _ a' f2 (fun w=>?_) fun n2 x2 h2 hn2 ex2 mn2 a2=>?_
    ·exact hN1 0 _ _ (by right) (.inl ⟨y8 s' n,f2,eI,w,rfl,a'⟩)
    ·exact hN1 (y8 s' n).pd.length _ _ (by right) (.inr ⟨y8 s' n,n2,x2,f2,eI,rfl,hn2,ex2,mn2,rfl,a2⟩)
 exact tk s h _ a fu (fun w=>main 0 _ _ (.inl ⟨s,fu,rfl,w,rfl,a⟩)) fun n x h' hn ex mn a'=>main s.pd.length _ _ (.inr ⟨s,n,x,fu,rfl,rfl,hn,ex,mn,rfl,a'⟩)
theorem c0g{f:Addr}{fd:FuncData}(F:Fun K "settled" "Offers.settled" a2v f fd)(T:Txt P w K mg)(C_q5:D8 P w K mg base 4 "Queue" "take" ["self"] (spD K 1 a3B)):l9 P w K mg base CX0 5 f fd ["self"] (spD K 1 a6e) :=
 l8 (k:=4) (b:=a7E) F sc_q2 (fun cdv A outer s H E hr=>by
  refine b9 ?_ ?_
  ·exact i5 (i:=1) sc_q2.nd rfl (Or.inl rfl) (O3 C_q5 (hr.mono (by decide)) (m7 T.f_queue (sv 0)))
  refine b9 ?_ ?_
  ·refine Z7 PassesOwn.never ?_ ?_
   ·exact W7 (V7 (i9 a2D (sv 1) n8) (P4 (i9 (L9 hr.units) (c5 c4 (sv 1) b7) (O7 hr.units (m7 T.f_least (sv 0)) (c5 c4 (c5 c4 (sv 1) b7) b7)))))
   refine c8 ?_;exact i5 (i:=1) sc_q2.nd rfl (Or.inl rfl) (O3 C_q5 (hr.mono (by decide)) (m7 T.f_queue (sv 0)))
  refine c8 ?_;refine j2 ?_;exact a0Q (i9 O1 (sv 1) n8) n8 (j4 (b4 (c5 c4 (sv 1) b7) (b4 (c5 c4 (c5 c4 (sv 1) b7) b7) (b4 (c5 c4 (c5 c4 (sv 1) b7) b7) b8))))) b6g
def a8J:DS:=(E2 (a3U (b5 (dUn (p8 "Search" "chart") (b6 0)) d7)) (a2f 2 (u8 (c9 1) (u8 (c9 2) M6))) (E2 (v6 (b5 (dOp pIx (b6 2) (dC (.int 1))) d7)) (c9 3) (y9 (C3 "Offers" "offer" a2k (dUn (p8 "Search" "offers") (b6 0)) (b5 (dC (.int 0)) (b5 (u0 (b5 (b6 1) (b5 (b6 3) (b5 (dC (.int 0)) (b5 (b6 3) d7))))) (b5 (u0 (b5 (dC (.str "begin")) (b5 (b6 1) (b5 (b6 3) d7)))) d7)))))))
def a9M:DSp:=fun ds h Q=>∃ (h0:Hh) (C:d9) (zr:P5),ds=[.ref h0.length]/\WF C/\At h0 C zr se0 h/\∀ h',At h0 C zr (offs se0 (a6D C)) h'->Q .non h'
theorem b7f:∀ ds h Q,a9M ds h Q->i7 4 a8J ds h Q:=by
 rintro ds h Q ⟨h0,C,zr,rfl,wf,a,q⟩
 delta i7 a8J;simp only [VS];simp only [V9 a.se,cD,VV0];rw [a1H];refine m8 (fun p δ h'=>(∃ x1 x2 x3,δ=[some (.ref h0.length),x1,x2,x3])/\At h0 C zr (offs se0 (p.flatMap a0R)) h') ⟨⟨_,_,_,rfl⟩,a⟩ (fun _ _ _ _=>Src.ok_nil) ?_ ?_
 ·rintro p x r δ h' N1 e ⟨⟨_,_,_,rfl⟩,a'⟩ hN1
  obtain ⟨F,f⟩:=x;have hf:C[f]?=some F:=List.mem_zipIdx_iff_getElem?.mp (by rw [e];exact List.mem_append_right _ List.mem_cons_self);have hF:=wf.fn f F hf;simp only [fD,VV];refine ⟨trivial,⟨by right,by right⟩,?_⟩;rw [o8,Int.toNat_natCast,Int.zero_add]
  have ok:∀ x ∈ p.flatMap a0R ++ a0R (F,f),E5 C se0 x:=fun x hx=>by
   refine a9F x ?_;unfold a6D;rw [e,List.flatMap_append,List.flatMap_cons]
   rcases List.mem_append.mp hx with z | z
   ·exact List.mem_append_left _ z
   ·exact List.mem_append_right _ (List.mem_append_left _ z)
  obtain ⟨m1,s1,_⟩:=(b9X C).offs wf fun x hx=>ok x (List.mem_append_left _ hx)
  have ok1:∀ x ∈ a0R (F,f),E5 C (offs se0 (p.flatMap a0R)) x:=fun x hx=>by
   have:=ok x (List.mem_append_right _ hx)
   unfold E5 at this ⊢;rw [s1.I];exact this
  have es:offs se0 ((p ++ [(F,f)]).flatMap a0R)=offs (offs se0 (p.flatMap a0R)) (a0R (F,f)):=by rw [List.flatMap_append,a0s,List.flatMap_singleton]
  rw [es] at hN1;generalize offs se0 (p.flatMap a0R)=s at *;refine m8 (fun p2 δ h2=>(∃ x3,δ=[some (.ref h0.length),some (nD f),some (.tup [nD F.places,nD F.facts,D.lst (F.edges.map eD)]),x3])/\At h0 C zr (offs s (p2.map fun d=>(0,⟨f,d,0,d⟩,.begin f d))) h2) ⟨⟨_,rfl⟩,a'⟩ (fun _ _ _ _=>Src.ok_nil) ?_ ?_
  ·rintro p2 d r2 δ h2 N2 e2 ⟨⟨_,rfl⟩,a2⟩ hN2
   simp only [F5 a2.se,VV3];obtain ⟨b1,b2,b3⟩:=V1 wf (a2w wf m1 e2 ok1);refine ⟨a0q a2.of rfl,h0,C,zr,_,0,⟨f,d,0,d⟩,.begin f d,?_,a2,b1,b2,b3,fun h3 a3=>hN2 _ _ ⟨⟨_,rfl⟩,?_⟩⟩
   ·rw [Int.zero_add];rfl
   ·rw [W1];exact a3
  ·rintro δ h2 ⟨⟨_,rfl⟩,a2⟩
   exact hN1 _ _ ⟨⟨_,_,_,rfl⟩,a2⟩
 ·rintro δ h' ⟨_,a'⟩
  simp only [VV];exact q h' a'
theorem c0C{f:Addr}{fd:FuncData}(F:Fun K "begin" "Search.begin" a2j f fd)(T:Txt P w K mg)(C_q1:D8 P w K mg base 4 "Offers" "offer" ["self","cost","key","row"] (spD K 4 a2k)):l9 P w K mg base CX0 5 f fd ["self"] (spD K 1 a9M) :=
 l8 (k:=4) (b:=a8J) F sc_q7 (fun cdv A outer s H E hr=>by
  refine c8 ?_;refine A5 PassesOwn.never rfl (a4u rfl T.b_enumerate (b4 (m7 T.f_chart (sv 0)) b8)) ?_ ?_
  ·exact Q8 rfl (p7 (i6 (i:=1) sc_q7.nd rfl (Or.inl rfl)) (p7 (i6 (i:=2) sc_q7.nd rfl (Or.inl rfl)) E4))
  refine c8 ?_;refine A5 PassesOwn.never rfl (t8 rfl T.b_range (b4 (c5 c4 (sv 2) b7) b8)) (i6 (i:=3) sc_q7.nd rfl (Or.inl rfl)) ?_;refine c8 ?_;refine t9 ?_;exact D1 C_q1 (hr.mono (by decide)) (m7 T.f_offers (sv 0)) (b4 b7 (b4 (j4 (b4 (sv 1) (b4 (sv 3) (b4 b7 (b4 (sv 3) b8))))) (b4 (j4 (b4 k9 (b4 (sv 1) (b4 (sv 3) b8)))) b8)))) b7f
def a2V:DS:=(f7 (j0 (dIf (n5 (dOp (pEq false) (dOp pIx (b6 5) (dC (.int 0))) (dC (.str "step")))) (dC (.str "step")) (dC (.str "over"))) (c9 6))
  (E2 (C0 (j8 Q4 (b5 (dOp pIx (j8 a4t (b5 (b6 5) d7)) (dOp pIx (b6 2) (dC (.int 3)))) d7))) (c9 7) (y9 (C3 "Offers" "offer" a2k (dUn (p8 "Search" "offers") (b6 0)) (b5 (dOp m9 (b6 1) (dOp pIx (b6 5) (dC (.int 3)))) (b5 (u0 (b5 (dOp pIx (b6 2) (dC (.int 0))) (b5 (dOp pIx (b6 2) (dC (.int 1))) (b5 (dOp pIx (b6 5) (dC (.int 2))) (b5 (b6 7) d7))))) (b5 (u0 (b5 (b6 6) (b5 (b6 3) (b5 (b6 4) (b5 (b6 7) d7))))) d7)))))))
theorem b3O{C:d9}(wf:WF C){F:Fn}{f:Nat}{E:Edge}(hF:C[f]?=some F)(he:E ∈ F.edges):tOk (E1 E) F.facts F.facts:=by
 have:=((wf.fn f F hF).2.2.2.2.2 E he).2.2.2.2
 unfold E1
 cases hk:E.k with
 |step t=>rw [hk] at this;exact this
 |call g i b o=>rw [hk] at this;obtain ⟨_,_,_,_,h⟩:=this;exact h
def a3c:DSp:=fun ds h Q=>∃ (h0:Hh) (C:d9) (zr:P5) (s:Se) (c k n:Nat) (ky:Ky) (F:Fn) (E:Edge),ds=[.ref h0.length,nD c,tkD ky.t,nD k,nD n,eD E]/\WF C/\At h0 C zr s h/\Mid C s/\C[ky.f]?=some F/\E ∈ F.edges/\ky.d < F.facts/\(∀ x ∈ gpL c ky k n E,E5 C s x)/\∀ h',At h0 C zr (offs s (gpL c ky k n E)) h'->Q .non h'
theorem b4k:∀ ds h Q,a3c ds h Q->i7 8 a2V ds h Q:=by
 rintro ds h Q ⟨h0,C,zr,s,c,k,n,ky,F,E,rfl,wf,a,m,hF,hE,hd,ok,q⟩
 have tk:=b3O wf hF hE;have f6:=(wf.fn _ F hF).2.2.2.1;have t0:∀ h,ixD h (tkD ky.t) (.int 0)=some (nD ky.f):=fun _=>rfl;have t1:∀ h,ixD h (tkD ky.t) (.int 1)=some (nD ky.a):=fun _=>rfl;have t3:∀ h,ixD h (tkD ky.t) (.int 3)=some (nD ky.d):=fun _=>rfl;have wd:(if E.isStep=true then Mv.step else Mv.over).w=if E.isStep=true then Str.ofString "step" else Str.ofString "over":=by split <;> rfl
 have k1:(Str.ofString "step" == Str.ofString "step")=true:=by decide +kernel
 have k2:(Str.ofString "call" == Str.ofString "step")=false:=by decide +kernel
 have k3:PyData.strOk (Str.ofString "step")=true:=by decide +kernel
 have k4:PyData.strOk (Str.ofString "call")=true:=by decide +kernel
 have ew:(E.word == Str.ofString "step")=E.isStep:=by
  unfold Edge.word Edge.isStep
  cases E.k with
  |step _=>exact k1
  |call _ _ _ _=>exact k2
 have es:PyData.strOk E.word=true:=by
  unfold Edge.word
  cases E.k with
  |step _=>exact k3
  |call _ _ _ _=>exact k4
 delta i7 a2V;simp only [VS];left
 have main:N [some (D.ref h0.length),some (nD c),some (tkD ky.t),some (nD k),some (nD n),some (eD E),some (D.str (if E.isStep=true then Mv.step else Mv.over).w),none] h:=by
  subst hN;simp only [t0,t1,t3,b2K,b3E,VV];refine ⟨E,rfl,?_⟩;dsimp only;rw [a5A h tk hd];refine ⟨(E1 E).getD ky.d 0,rfl,Nat.lt_trans (a2S (tk.get hd).2 f6) (by decide),?_⟩;simp only [VV];refine m8 (fun p δ h'=>(∃ x,δ=[some (D.ref h0.length),some (nD c),some (tkD ky.t),some (nD k),some (nD n),some (eD E),some (D.str (if E.isStep=true then Mv.step else Mv.over).w),x])/\At h0 C zr (offs s (p.map fun e=>(c + E.cost,⟨ky.f,ky.a,E.q,e⟩,.mv (if E.isStep=true then .step else .over) k n e))) h') ⟨⟨_,rfl⟩,a⟩ (fun _ _ _ _=>Src.ok_nil) ?_ ?_
  ·rintro p e r δ h' N1 ee ⟨⟨_,rfl⟩,a2⟩ hN1
   simp only [F5 a2.se,t0,t1,t3,b2K,b3E,VV3];obtain ⟨b1,b2,b3⟩:=V1 wf (a2w wf m ee ok);refine ⟨a0q a2.of rfl,h0,C,zr,_,c + E.cost,⟨ky.f,ky.a,E.q,e⟩,.mv (if E.isStep=true then .step else .over) k n e,rfl,a2,b1,b2,b3,fun h3 a3=>hN1 _ _ ⟨⟨_,rfl⟩,?_⟩⟩;rw [W1];exact a3
  ·rintro δ h2 ⟨⟨_,rfl⟩,a2⟩
   simp only [VV];exact q _ a2
 simp only [b7c,es,ew,VV]
 cases z:E.isStep with
 |true=>rw [z] at main;simp only [VV];exact main
 |false=>rw [z] at main;simp only [VV];exact main
theorem b7L{f:Addr}{fd:FuncData}(F:Fun K "go_past" "Search.go_past" U0 f fd)(T:Txt P w K mg)(C_q51:Cal P w K mg base 1 "table_past" ["edge"] (spD K 1 a4t))(C_q39:Cal P w K mg base 1 "facts_in" ["mask"] (spD K 1 Q4))(C_q1:D8 P w K mg base 4 "Offers" "offer" ["self","cost","key","row"] (spD K 4 a2k)):l9 P w K mg base CX0 5 f fd ["self","cost","key","k","n","edge"] (spD K 6 a3c) :=
 l8 (k:=4) (b:=a2V) F sc_q11 (fun cdv A outer s H E hr=>by
  refine b9 ?_ ?_
  ·refine i5 (i:=6) sc_q11.nd rfl (Or.inl rfl) ?_;exact a0Q (i9 (z9 hr.units) (c5 c4 (sv 5) b7) k9) k9 k9
  refine c8 ?_;refine A5 PassesOwn.never rfl ?_ (i6 (i:=7) sc_q11.nd rfl (Or.inl rfl)) ?_
  ·exact y7 (f8 C_q39 (hr.mono (by decide)) rfl (b4 (c5 c4 (f8 C_q51 (hr.mono (by decide)) rfl (b4 (sv 5) b8)) (c5 c4 (sv 2) b7)) b8))
  refine c8 ?_;refine t9 ?_;exact D1 C_q1 (hr.mono (by decide)) (m7 T.f_offers (sv 0)) (b4 (d8 j1 (sv 1) (c5 c4 (sv 5) b7)) (b4 (j4 (b4 (c5 c4 (sv 2) b7) (b4 (c5 c4 (sv 2) b7) (b4 (c5 c4 (sv 5) b7) (b4 (sv 7) b8))))) (b4 (j4 (b4 (sv 6) (b4 (sv 3) (b4 (sv 4) (b4 (sv 7) b8))))) b8)))) b4k
def a8n:DS:=(f7 (j0 (dOp pIx (b6 1) (dC (.int 1))) (c9 3))
  (f7 (j0 (dOp pIx (b6 1) (dC (.int 4))) (c9 4))
  (E2 (C0 (j8 Q4 (b5 (dOp pIx (dOp pIx (b6 4) (dC (.int 6))) (dOp pIx (b6 2) (dC (.int 1)))) d7))) (c9 5) (f7 (j0 (u0 (b5 (dC (.str "short")) (b5 (dOp pIx (b6 1) (dC (.int 2))) (b5 (dOp pIx (b6 1) (dC (.int 3))) (b5 (dOp pIx (b6 2) (dC (.int 2))) (b5 (b6 5) d7)))))) (c9 6))
  (y9 (C3 "Offers" "offer" a2k (dUn (p8 "Search" "offers") (b6 0)) (b5 (dOp m9 (dOp pIx (b6 1) (dC (.int 0))) (dOp pIx (b6 2) (dC (.int 0)))) (b5 (u0 (b5 (dOp pIx (b6 3) (dC (.int 0))) (b5 (dOp pIx (b6 3) (dC (.int 1))) (b5 (dOp pIx (b6 4) (dC (.int 2))) (b5 (b6 5) d7))))) (b5 (b6 6) d7)))))))))
def a4m:DSp:=fun ds h Q=>∃ (h0:Hh) (C:d9) (zr:P5) (s:Se) (x:a0j) (y:En) (g:Nat) (i t o:List Nat) (n2:Nat),ds=[.ref h0.length,P6 x,a6a y]/\WF C/\At h0 C zr s h/\Mid C s/\x.E.k = .call g i t o/\tOk t n2 6/\y.d < n2/\(∀ z ∈ cbL x y,E5 C s z)/\∀ h',At h0 C zr (offs s (cbL x y)) h'->Q .non h'
theorem b7R:∀ ds h Q,a4m ds h Q->i7 7 a8n ds h Q:=by
 rintro ds h Q ⟨h0,C,zr,s,x,y,g,i,t,o,n2,rfl,wf,a,m,hk,ht,hd,ok,q⟩
 have bt:a0v x.E=t:=by unfold a0v;rw [hk]
 have t0:∀ h,ixD h (tkD x.key.t) (.int 0)=some (nD x.key.f):=fun _=>rfl;have t1:∀ h,ixD h (tkD x.key.t) (.int 1)=some (nD x.key.a):=fun _=>rfl;have e6:∀ h,ixD h (eD x.E) (.int 6)=some (tD t):=fun h=>by unfold eD;rw [hk];rfl
 delta i7 a8n;simp only [VS];left;simp only [P6,VV];subst hN;left;simp only [VV];subst hN;simp only [a6a,e6,a5A h ht hd,VV];refine ⟨t.getD y.d 0,rfl,Nat.lt_trans (a2S (ht.get hd).2 (Nat.le_refl _)) (by decide),?_⟩;simp only [VV];have eb:cbL x y=(k8 (t.getD y.d 0)).map fun e=>(x.cost + y.cost,⟨x.key.f,x.key.a,x.E.q,e⟩,.short x.k x.n y.k e):=by unfold cbL;rw [bt]
 rw [eb] at ok q;refine m8 (fun p δ h'=>(∃ x1 x2,δ=[some (D.ref h0.length),some (D.tup [nD x.cost,tkD x.key.t,nD x.k,nD x.n,eD x.E]),some (D.tup [nD y.cost,nD y.d,nD y.k]),some (tkD x.key.t),some (eD x.E),x1,x2])/\At h0 C zr (offs s (p.map fun e=>(x.cost + y.cost,⟨x.key.f,x.key.a,x.E.q,e⟩,.short x.k x.n y.k e))) h') ⟨⟨_,_,rfl⟩,a⟩ (fun _ _ _ _=>Src.ok_nil) ?_ ?_
 ·rintro p e r δ h' N1 ee ⟨⟨_,_,rfl⟩,a2⟩ hN1
  simp only [VV];left;simp only [VV];subst hN;simp only [F5 a2.se,t0,t1,b2K,VV3];obtain ⟨b1,b2,b3⟩:=V1 wf (a2w wf m ee ok);refine ⟨a0q a2.of rfl,h0,C,zr,_,x.cost + y.cost,⟨x.key.f,x.key.a,x.E.q,e⟩,.short x.k x.n y.k e,rfl,a2,b1,b2,b3,fun h3 a3=>hN1 _ _ ⟨⟨_,_,rfl⟩,?_⟩⟩;rw [W1];exact a3
 ·rintro δ h2 ⟨⟨_,_,rfl⟩,a2⟩
  simp only [VV];exact q _ a2
theorem b9Y{f:Addr}{fd:FuncData}(F:Fun K "come_back" "Search.come_back" a2t f fd)(T:Txt P w K mg)(C_q39:Cal P w K mg base 1 "facts_in" ["mask"] (spD K 1 Q4))(C_q1:D8 P w K mg base 4 "Offers" "offer" ["self","cost","key","row"] (spD K 4 a2k)):l9 P w K mg base CX0 5 f fd ["self","call","end"] (spD K 3 a4m) :=
 l8 (k:=4) (b:=a8n) F sc_q8 (fun cdv A outer s H E hr=>by
  refine b9 ?_ ?_
  ·exact i5 (i:=3) sc_q8.nd rfl (Or.inl rfl) (c5 c4 (sv 1) b7)
  refine b9 ?_ ?_
  ·exact i5 (i:=4) sc_q8.nd rfl (Or.inl rfl) (c5 c4 (sv 1) b7)
  refine c8 ?_;refine A5 PassesOwn.never rfl ?_ (i6 (i:=5) sc_q8.nd rfl (Or.inl rfl)) ?_
  ·exact y7 (f8 C_q39 (hr.mono (by decide)) rfl (b4 (c5 c4 (c5 c4 (sv 4) b7) (c5 c4 (sv 2) b7)) b8))
  refine b9 ?_ ?_
  ·refine i5 (i:=6) ?_ ?_ ?_ ?_
   ·exact sc_q8.nd
   ·exact rfl
   ·exact Or.inl rfl
   refine j4 (n:=5) ?_;refine b4 k9 ?_;refine b4 (c5 c4 (sv 1) b7) ?_;exact b4 (c5 c4 (sv 1) b7) (b4 (c5 c4 (sv 2) b7) (b4 (sv 5) b8))
  refine c8 ?_;refine t9 ?_;exact D1 C_q1 (hr.mono (by decide)) (m7 T.f_offers (sv 0)) (b4 (d8 j1 (c5 c4 (sv 1) b7) (c5 c4 (sv 2) b7)) (b4 (j4 (b4 (c5 c4 (sv 3) b7) (b4 (c5 c4 (sv 3) b7) (b4 (c5 c4 (sv 4) b7) (b4 (sv 5) b8))))) (b4 (sv 6) b8)))) b7R
def a3C:DS:=(f7 (j0 (u0 (b5 (dOp m9 (b6 1) (dOp pIx (b6 5) (dC (.int 3)))) (b5 (b6 2) (b5 (b6 3) (b5 (b6 4) (b5 (b6 5) d7)))))) (c9 6))
  (E2 (C0 (j8 Q4 (b5 (dOp pIx (dOp pIx (b6 5) (dC (.int 5))) (dOp pIx (b6 2) (dC (.int 3)))) d7))) (c9 7) (f7 (j0 (u0 (b5 (dOp pIx (b6 5) (dC (.int 4))) (b5 (b6 7) d7))) (c9 8))
  (f7 (y9 (B7 (a7N (dUn (p8 "Search" "calls") (b6 0)) (b6 8) (dTk d7)) (b5 (b6 6) d7)))
  (E2 (C0 (a3X (dUn (p8 "Search" "ends") (b6 0)) (b6 8) (dV d7))) (c9 9) (y9 (C3 "Search" "come_back" a4m (b6 0) (b5 (b6 6) (b5 (b6 9) d7)))))))))
def a3o:DSp:=fun ds h Q=>∃ (h0:Hh) (C:d9) (zr:P5) (s:Se) (c k n:Nat) (ky:Ky) (E:Edge) (g:Nat) (i t o:List Nat) (n1 n2:Nat),ds=[.ref h0.length,nD c,tkD ky.t,nD k,nD n,eD E]/\WF C/\At h0 C zr s h/\Mid C s/\E.k = .call g i t o/\tOk i n1 6/\ky.d < n1/\tOk t n2 6/\g < 6/\(∀ b,∀ y ∈ s.en g b,y.d < n2)/\(∀ b ∈ k8 (i.getD ky.d 0),∀ y ∈ s.en g b,∀ z ∈ cbL ⟨c + E.cost,ky,k,n,E⟩ y,E5 C s z)/\(∀ b,(s.ca g b).length < 10000000)/\∀ zr' h',At h0 C zr' (gin s c ky k n E) h'->Q .non h'
theorem b1R:∀ ds h Q,a3o ds h Q->i7 10 a3C ds h Q:=by
 rintro ds h Q ⟨h0,C,zr,s,c,k,n,ky,E,g,i,t,o,n1,n2,rfl,wf,a,m,hk,ht,hd,ht2,hg,hy,ok,hl,q⟩
 have t3:∀ h,ixD h (tkD ky.t) (.int 3)=some (nD ky.d):=fun _=>rfl;have e4:∀ h,ixD h (eD E) (.int 4)=some (nD g):=fun h=>by unfold eD;rw [hk];rfl
 have e5:∀ h,ixD h (eD E) (.int 5)=some (tD i):=fun h=>by unfold eD;rw [hk];rfl
 have b64:i.getD ky.d 0 < 64:=a2S (ht.get hd).2 (Nat.le_refl _);have eg:gin s c ky k n E=(k8 (i.getD ky.d 0)).foldl (gi1 g ⟨c + E.cost,ky,k,n,E⟩) s:=by unfold gin a3f;rw [hk]
 rw [eg] at q;delta i7 a3C;simp only [VS];left;simp only [b3E,VV];subst hN;simp only [e5,t3,a5A h ht hd,VV];refine ⟨i.getD ky.d 0,rfl,Nat.lt_trans b64 (by decide),?_⟩;simp only [VV];refine m8 (fun p δ h'=>(∃ x1 x2 x3,δ=[some (.ref h0.length),some (nD c),some (tkD ky.t),some (nD k),some (nD n),some (eD E),some (P6 ⟨c + E.cost,ky,k,n,E⟩),x1,x2,x3])/\∃ zr',At h0 C zr' (p.foldl (gi1 g ⟨c + E.cost,ky,k,n,E⟩) s) h') ⟨⟨_,_,_,rfl⟩,zr,a⟩ (fun _ _ _ _=>Src.ok_nil) ?_ ?_
 ·rintro p b r δ h' N1 ee ⟨⟨_,_,_,rfl⟩,zr1,a1⟩ hN1
  have hb6:b < 6:=by
   have:b ∈ k8 (i.getD ky.d 0):=by rw [ee];exact List.mem_append_right _ List.mem_cons_self
   rw [J4 b64] at this;exact (mem6.mp this).1
  obtain ⟨m1,eI,een,lc⟩:=a5w wf (p:=p) m fun b' hb'=>ok b' (by rw [ee];exact List.mem_append_left _ hb');have okb:=ok b (by rw [ee];exact List.mem_append_right _ List.mem_cons_self);rw [List.foldl_append] at hN1
  have pl:p.length <= 6:=by
   have h6:=J2 b64;rw [ee,List.length_append] at h6;omega
  generalize p.foldl (gi1 g ⟨c + E.cost,ky,k,n,E⟩) s=s1 at *;simp only [VV];left;simp only [e4,VV];subst hN;left;simp only [a1g a1.se,VV0];refine ⟨⟨_,none,zr1.kc,rfl,a1.calls⟩,?_⟩;obtain ⟨hs,rfl,pm,hp,dc,de⟩:=a1.ex;refine a5K true (a0:=seO h0.length C) (a1:=ofO h0.length) dc de hg hb6 (by rw [List.length_map];have:=lc g b;have:=hl b;omega) fun j h3 xs e3 l3 nx=>?_;simp only [e3,VV];refine ⟨l3,?_⟩;obtain ⟨kc',ke',y',e6,d5,d6⟩:=nx (P6 ⟨c + E.cost,ky,k,n,E⟩)
  have a2:At h0 C ⟨kc',ke',y'⟩ { s1 with ca:=D9 s1.ca g b (s1.ca g b ++ [⟨c + E.cost,ky,k,n,E⟩]) } (h3.set j (.lst (xs ++ [P6 ⟨c + E.cost,ky,k,n,E⟩]))):=⟨hs,e6,pm,hp,d5.congr fun g' b'=>(by
   by_cases w:g'=g/\b'=b
   ·obtain ⟨rfl,rfl⟩:=w;show (if _ then _ else _)=(D9 s1.ca g' b' _ g' b').map P6;rw [if_pos ⟨rfl,rfl⟩,C4,List.map_append];rfl
   ·show (if _ then _ else _)=(D9 s1.ca g b _ g' b').map P6;rw [if_neg w,L1 w]),d6⟩
  have m2:Mid C { s1 with ca:=D9 s1.ca g b (s1.ca g b ++ [⟨c + E.cost,ky,k,n,E⟩]) }:=⟨m1.pap,m1.nd,m1.ti,m1.tl,m1.tt,m1.td,m1.vl,m1.cu,m1.np,m1.pl,m1.pn,m1.lk⟩
  have eg1:[b].foldl (gi1 g ⟨c + E.cost,ky,k,n,E⟩) s1=offs { s1 with ca:=D9 s1.ca g b (s1.ca g b ++ [⟨c + E.cost,ky,k,n,E⟩]) } ((s1.en g b).flatMap (cbL ⟨c + E.cost,ky,k,n,E⟩)):=rfl;rw [eg1] at hN1
  have ok2:∀ y ∈ s1.en g b,∀ z ∈ cbL ⟨c + E.cost,ky,k,n,E⟩ y,E5 C { s1 with ca:=D9 s1.ca g b (s1.ca g b ++ [⟨c + E.cost,ky,k,n,E⟩]) } z:=fun y hy' z hz=>by
   rw [een] at hy'
   have:=okb y hy' z hz
   unfold E5 at this ⊢;show f9 C 0 (x0 s1.I) _=_/\∀ y ∈ s1.I,_;rw [eI];exact this
  have yd:∀ y ∈ s1.en g b,y.d < n2:=fun y hy'=>hy b y (by rw [<- een];exact hy');have dcl:=d6.at_ g b;generalize h3.set j (.lst (xs ++ [P6 ⟨c + E.cost,ky,k,n,E⟩]))=h4 at *;generalize ({ s1 with ca:=D9 s1.ca g b (s1.ca g b ++ [⟨c + E.cost,ky,k,n,E⟩]) }:Se)=s2 at *;subst hN;simp only [a2G a2.se,VV0];refine ⟨⟨_,none,ke',rfl,a2.ends⟩,a5L a2.ends ?_⟩
  rcases dcl with ⟨h1,h2⟩ | ⟨l,h1,h2⟩
  ·have h1:D5 ke' (kN [g,b])=none:=h1
   have:s1.en g b=[]:=List.map_eq_nil_iff.mp h2
   rw [h1];simp only [VV];rw [this] at hN1;exact ⟨Src.ok_nil,hN1 _ _ ⟨⟨_,_,_,rfl⟩,_,a2⟩⟩
  ·have h1:D5 ke' (kN [g,b])=some (.ref (h0.length + (9 + l))):=h1;rw [h1];have e7:=a2.dyn h2;simp only [L4 e7,VV];refine m8 (fun p2 δ h'=>(∃ x3,δ=[some (.ref h0.length),some (nD c),some (tkD ky.t),some (nD k),some (nD n),some (eD E),some (P6 ⟨c + E.cost,ky,k,n,E⟩),some (nD b),some (.tup [nD g,nD b]),x3])/\At h0 C ⟨kc',ke',y'⟩ (offs s2 (p2.flatMap (cbL ⟨c + E.cost,ky,k,n,E⟩))) h') ⟨⟨_,rfl⟩,a2⟩ (fun p δ h' hp pr hpr=>?_) ?_ ?_
   ·rw [List.mem_singleton.mp hpr];exact hp.2.dyn h2
   ·rintro p2 y r2 δ h' N3 ee2 ⟨⟨_,rfl⟩,a3⟩ hN3
    obtain ⟨m3,ok3⟩:=a3p wf m2 ee2 ok2;simp only [VV1];refine ⟨Q9 a3.se rfl,h0,C,⟨kc',ke',y'⟩,_,⟨c + E.cost,ky,k,n,E⟩,y,g,i,t,o,n2,rfl,wf,a3,m3,hk,ht2,yd y (by rw [ee2];exact List.mem_append_right _ List.mem_cons_self),ok3,fun h5 a5=>hN3 _ _ ⟨⟨_,rfl⟩,?_⟩⟩;rw [a1A];exact a5
   ·rintro δ h' ⟨⟨_,rfl⟩,a3⟩
    exact hN1 _ _ ⟨⟨_,_,_,rfl⟩,_,a3⟩
 ·rintro δ h' ⟨_,zr1,a1⟩
  simp only [VV];exact q _ _ a1
theorem b8g{f:Addr}{fd:FuncData}(F:Fun K "go_in" "Search.go_in" T0 f fd)(T:Txt P w K mg)(C_q39:Cal P w K mg base 1 "facts_in" ["mask"] (spD K 1 Q4))(C_q8:D8 P w K mg base 5 "Search" "come_back" ["self","call","end"] (spD K 3 a4m)):l9 P w K mg base CX0 6 f fd ["self","cost","key","k","n","edge"] (spD K 6 a3o) :=
 l8 (k:=5) (b:=a3C) F sc_q10 (fun cdv A outer s H E hr=>by
  refine b9 ?_ ?_
  ·refine i5 (i:=6) ?_ ?_ ?_ ?_
   ·exact sc_q10.nd
   ·exact rfl
   ·exact Or.inl rfl
   refine j4 (n:=5) ?_;exact b4 (d8 j1 (sv 1) (c5 c4 (sv 5) b7)) (b4 (sv 2) (b4 (sv 3) (b4 (sv 4) (b4 (sv 5) b8))))
  refine c8 ?_;refine A5 PassesOwn.never rfl ?_ (i6 (i:=7) sc_q10.nd rfl (Or.inl rfl)) ?_
  ·exact y7 (f8 C_q39 (hr.mono (by decide)) rfl (b4 (c5 c4 (c5 c4 (sv 5) b7) (c5 c4 (sv 2) b7)) b8))
  refine b9 ?_ ?_
  ·refine i5 (i:=8) sc_q10.nd rfl (Or.inl rfl) ?_;exact j4 (b4 (c5 c4 (sv 5) b7) (b4 (sv 7) b8))
  refine b9 ?_ ?_
  ·refine t9 ?_;exact v9 (a4z hr.units (m7 T.f_calls (sv 0)) (sv 8) (Z2 (r9 b8)) ⟨rfl,rfl,rfl,rfl⟩) (b4 (sv 6) b8)
  refine c8 ?_;refine A5 PassesOwn.never rfl ?_ (i6 (i:=9) sc_q10.nd rfl (Or.inl rfl)) ?_
  ·exact y7 (a3e hr.units (m7 T.f_ends (sv 0)) (sv 8) (D4 (r9 b8)) ⟨rfl,rfl,rfl,rfl⟩)
  refine c8 ?_;refine t9 ?_;exact D1 C_q8 (hr.mono (by decide)) (sv 0) (b4 (sv 6) (b4 (sv 9) b8))) b1R
def b0e:DS:=(f7 (j0 (u0 (b5 (b6 1) (b5 (dOp pIx (b6 2) (dC (.int 3))) (b5 (b6 3) d7)))) (c9 4))
  (f7 (j0 (u0 (b5 (dOp pIx (b6 2) (dC (.int 0))) (b5 (dOp pIx (b6 2) (dC (.int 1))) d7))) (c9 5))
  (f7 (y9 (B7 (a7N (dUn (p8 "Search" "ends") (b6 0)) (b6 5) (dTk d7)) (b5 (b6 4) d7)))
  (E2 (C0 (a3X (dUn (p8 "Search" "calls") (b6 0)) (b6 5) (dV d7))) (c9 6) (y9 (C3 "Search" "come_back" a4m (b6 0) (b5 (b6 6) (b5 (b6 4) d7))))))))
def a9x:DSp:=fun ds h Q=>∃ (h0:Hh) (C:d9) (zr:P5) (s:Se) (c k:Nat) (ky:Ky),ds=[.ref h0.length,nD c,tkD ky.t,nD k]/\WF C/\At h0 C zr s h/\Mid C s/\ky.f < 6/\ky.a < 6/\(s.en ky.f ky.a).length < 16777216/\(∀ x ∈ s.ca ky.f ky.a,(∃ g i t o n2,x.E.k = .call g i t o/\tOk t n2 6/\ky.d < n2)/\∀ z ∈ cbL x ⟨c,ky.d,k⟩,E5 C s z)/\∀ zr' h',At h0 C zr' (cte s c ky k) h'->Q .non h'
theorem b6h:∀ ds h Q,a9x ds h Q->i7 7 b0e ds h Q:=by
 rintro ds h Q ⟨h0,C,zr,s,c,k,ky,rfl,wf,a,m,hf,ha,hl,ok,q⟩
 have t0:∀ h,ixD h (tkD ky.t) (.int 0)=some (nD ky.f):=fun _=>rfl;have t1:∀ h,ixD h (tkD ky.t) (.int 1)=some (nD ky.a):=fun _=>rfl;have t3:∀ h,ixD h (tkD ky.t) (.int 3)=some (nD ky.d):=fun _=>rfl;delta i7 b0e;simp only [VS];left;simp only [t3,VV];subst hN;left;simp only [t0,t1,VV];subst hN;left;simp only [a2G a.se,VV0];refine ⟨⟨_,none,zr.ke,rfl,a.ends⟩,?_⟩;obtain ⟨hs,rfl,pm,hp,dc,de⟩:=a.ex;refine a5K false (a0:=seO h0.length C) (a1:=ofO h0.length) de dc hf ha (by rw [List.length_map];exact hl) fun i h3 xs e3 l3 nx=>?_;simp only [e3,VV];refine ⟨l3,?_⟩;obtain ⟨kc',ke',y',e5,d5,d6⟩:=nx (a6a ⟨c,ky.d,k⟩)
 have a1:At h0 C ⟨kc',ke',y'⟩ { s with en:=D9 s.en ky.f ky.a (s.en ky.f ky.a ++ [⟨c,ky.d,k⟩]) } (h3.set i (.lst (xs ++ [.tup [nD c,nD ky.d,nD k]]))):=⟨hs,e5,pm,hp,d6,d5.congr fun g b=>by
  by_cases w:g=ky.f/\b=ky.a
  ·obtain ⟨rfl,rfl⟩:=w;show (if _ then _ else _)=(D9 s.en ky.f ky.a _ ky.f ky.a).map a6a;rw [if_pos ⟨rfl,rfl⟩,C4,List.map_append];rfl
  ·show (if _ then _ else _)=(D9 s.en ky.f ky.a _ g b).map a6a;rw [if_neg w,L1 w]⟩
 have m1:Mid C { s with en:=D9 s.en ky.f ky.a (s.en ky.f ky.a ++ [⟨c,ky.d,k⟩]) }:=⟨m.pap,m.nd,m.ti,m.tl,m.tt,m.td,m.vl,m.cu,m.np,m.pl,m.pn,m.lk⟩
 have ec:cte s c ky k=offs { s with en:=D9 s.en ky.f ky.a (s.en ky.f ky.a ++ [⟨c,ky.d,k⟩]) } ((s.ca ky.f ky.a).flatMap fun x=>cbL x ⟨c,ky.d,k⟩):=rfl;have ok1:∀ x ∈ s.ca ky.f ky.a,∀ z ∈ cbL x ⟨c,ky.d,k⟩,E5 C { s with en:=D9 s.en ky.f ky.a (s.en ky.f ky.a ++ [⟨c,ky.d,k⟩]) } z:=fun x hx z hz=>(ok x hx).2 z hz;have dcl:=d6.at_ ky.f ky.a;rw [ec] at q;generalize h3.set i (.lst (xs ++ [.tup [nD c,nD ky.d,nD k]]))=h4 at *;generalize ({ s with en:=D9 s.en ky.f ky.a (s.en ky.f ky.a ++ [⟨c,ky.d,k⟩]) }:Se)=s1 at *;subst hN;simp only [a1g a1.se,VV0];refine ⟨⟨_,none,kc',rfl,a1.calls⟩,a5L a1.calls ?_⟩
 rcases dcl with ⟨h1,h2⟩ | ⟨j,h1,h2⟩
 ·have h1:D5 kc' (kN [ky.f,ky.a])=none:=h1
  have:s.ca ky.f ky.a=[]:=List.map_eq_nil_iff.mp h2
  rw [h1];simp only [VV];rw [this] at q;exact ⟨Src.ok_nil,q _ _ a1⟩
 ·have h1:D5 kc' (kN [ky.f,ky.a])=some (.ref (h0.length + (9 + j))):=h1;rw [h1];have e4:=a1.dyn h2;simp only [L4 e4,VV];refine m8 (fun p δ h'=>(∃ x,δ=[some (D.ref h0.length),some (nD c),some (tkD ky.t),some (nD k),some (D.tup [nD c,nD ky.d,nD k]),some (D.tup [nD ky.f,nD ky.a]),x])/\At h0 C ⟨kc',ke',y'⟩ (offs s1 (p.flatMap fun x=>cbL x ⟨c,ky.d,k⟩)) h') ⟨⟨_,rfl⟩,a1⟩ (fun p δ h' hp pr hpr=>?_) ?_ ?_
  ·rw [List.mem_singleton.mp hpr];exact hp.2.dyn h2
  ·rintro p x r δ h' N1 ee ⟨⟨_,rfl⟩,a2⟩ hN1
   obtain ⟨m2,ok2⟩:=a3p wf m1 ee ok1;obtain ⟨g,i',t,o,n2,k1,k2,k3⟩:=(ok x (by rw [ee];exact List.mem_append_right _ List.mem_cons_self)).1;simp only [VV1];refine ⟨Q9 a2.se rfl,h0,C,⟨kc',ke',y'⟩,_,x,⟨c,ky.d,k⟩,g,i',t,o,n2,rfl,wf,a2,m2,k1,k2,k3,ok2,fun h5 a5=>hN1 _ _ ⟨⟨_,rfl⟩,?_⟩⟩;rw [a1A];exact a5
  ·rintro δ h' ⟨_,a2⟩
   simp only [VV];exact q _ _ a2
theorem b9R{f:Addr}{fd:FuncData}(F:Fun K "come_to_end" "Search.come_to_end" a1W f fd)(T:Txt P w K mg)(C_q8:D8 P w K mg base 5 "Search" "come_back" ["self","call","end"] (spD K 3 a4m)):l9 P w K mg base CX0 6 f fd ["self","cost","key","k"] (spD K 4 a9x) :=
 l8 (k:=5) (b:=b0e) F sc_q9 (fun cdv A outer s H E hr=>by
  refine b9 ?_ ?_
  ·refine i5 (i:=4) ?_ ?_ ?_ ?_
   ·exact sc_q9.nd
   ·exact rfl
   ·exact Or.inl rfl
   refine j4 (n:=3) ?_;exact b4 (sv 1) (b4 (c5 c4 (sv 2) b7) (b4 (sv 3) b8))
  refine b9 ?_ ?_
  ·refine i5 (i:=5) ?_ ?_ ?_ ?_
   ·exact sc_q9.nd
   ·exact rfl
   ·exact Or.inl rfl
   refine j4 (n:=2) ?_;exact b4 (c5 c4 (sv 2) b7) (b4 (c5 c4 (sv 2) b7) b8)
  refine b9 ?_ ?_
  ·refine t9 ?_;exact v9 (a4z hr.units (m7 T.f_ends (sv 0)) (sv 5) (Z2 (r9 b8)) ⟨rfl,rfl,rfl,rfl⟩) (b4 (sv 4) b8)
  refine c8 ?_;refine A5 PassesOwn.never rfl ?_ (i6 (i:=6) sc_q9.nd rfl (Or.inl rfl)) ?_
  ·exact y7 (a3e hr.units (m7 T.f_calls (sv 0)) (sv 5) (D4 (r9 b8)) ⟨rfl,rfl,rfl,rfl⟩)
  refine c8 ?_;refine t9 ?_;exact D1 C_q8 (hr.mono (by decide)) (sv 0) (b4 (sv 6) (b4 (sv 4) b8))) b6h
def a3E:DS:=(f7 (j0 (dCB H9 (b5 (dUn (p8 "Search" "rows") (b6 0)) d7)) (c9 4))
  (f7 (y9 (B7 (dUn (p8 "Search" "rows") (b6 0)) (b5 (b6 3) d7)))
  (f7 (a5M (dUn (p8 "Search" "found") (b6 0)) (b6 2) (b6 4))
  (f7 (v7 (n5 (dOp (pEq false) (dOp pIx (b6 2) (dC (.int 2))) (j8 a1n (b5 (dUn (p8 "Search" "chart") (b6 0)) (b5 (dOp pIx (b6 2) (dC (.int 0))) d7))))) (y9 (C3 "Search" "come_to_end" a9x (b6 0) (b5 (b6 1) (b5 (b6 2) (b5 (b6 4) d7))))) o0)
  (E2 (C0 (j8 a5z (b5 (dUn (p8 "Search" "chart") (b6 0)) (b5 (dOp pIx (b6 2) (dC (.int 0))) (b5 (dOp pIx (b6 2) (dC (.int 2))) d7))))) (a2f 2 (u8 (c9 5) (u8 (c9 6) M6))) (f7 (y9 (C3 "Search" "go_past" a3c (b6 0) (b5 (b6 1) (b5 (b6 2) (b5 (b6 4) (b5 (b6 5) (b5 (b6 6) d7)))))))
  (v7 (n5 (dOp (pEq false) (dOp pIx (b6 6) (dC (.int 0))) (dC (.str "call")))) (y9 (C3 "Search" "go_in" a3o (b6 0) (b5 (b6 1) (b5 (b6 2) (b5 (b6 4) (b5 (b6 5) (b5 (b6 6) d7))))))) o0)))))))
def a3n:DSp:=fun ds h Q=>∃ (h0:Hh) (C:d9) (zr:P5) (s:Se) (n:Nat) (x:Of) (F:Fn),ds=[.ref h0.length,nD x.1,tkD x.2.1.t,rD x.2.2]/\WF C/\At h0 C zr (y8 s n) h/\Full C s/\n ∈ s.pd/\s.T[n]?=some x/\look s.L x.2.1.t=some x.1/\(∀ k ∈ s.pd,∀ y:Of,s.T[k]?=some y->x.1 <= y.1)/\C[x.2.1.f]?=some F/\x.2.1.a < F.facts/\x.2.1.d < F.facts/\∀ zr' h',At h0 C zr' (K6 F s n x) h'->Q .non h'
theorem b2T:∀ ds h Q,a3n ds h Q->i7 7 a3E ds h Q:=by
 rintro ds h Q ⟨h0,C,zr,s,n,x,F,rfl,wf,a,fu,hn,ex,el,mn,hF,ha,hd,q⟩
 obtain ⟨c,ky,r⟩:=x;dsimp only at *;obtain ⟨m0,top⟩:=fu.mid.settle hn ex el mn;have nw:=fu.mid.new hn ex el;have rl:=fu.mid.rlen;have il:=fu.mid.Ifew wf;have f6:ky.f < 6:=by have:=(List.getElem?_eq_some_iff.mp hF).1;have:=wf.six;omega
 have F6:=wf.fn _ F hF;have t0:∀ h,ixD h (tkD ky.t) (.int 0)=some (nD ky.f):=fun _=>rfl;have t2:∀ h,ixD h (tkD ky.t) (.int 2)=some (nD ky.p):=fun _=>rfl;delta i7 a3E;simp only [VS];left;simp only [a0z a.se,y0 (l7 a.rows),List.length_map,VV0];rw [show (y8 s n).rs.length=s.I.length from rl];subst hN;left;simp only [a0z a.se,a.rows,List.length_map,VV0];refine ⟨by rw [show (y8 s n).rs.length=s.I.length from rl];omega,?_⟩
 have a1:At h0 C zr { y8 s n with rs:=s.rs ++ [r] } (h.set (h0.length + 5) (.lst ((y8 s n).rs.map rD ++ [rD r]))):=by
  obtain ⟨hs,rfl,pm,hp,dc,de⟩:=a.ex;refine ⟨hs,?_,pm,hp,dc,de⟩;rw [L0];show h0 ++ (stH h0.length C (y8 s n) hs zr.kc zr.ke ++ A7 zr.y |>.set 5 _)=_;unfold stH;show _=h0 ++ ([_,_,_,_,_,O.lst ((s.rs ++ [r]).map rD),_,_,_] ++ _);rw [List.map_append];rfl
 generalize h.set (h0.length + 5) (.lst ((y8 s n).rs.map rD ++ [rD r]))=h1 at *;subst hN;left;simp only [a1c a1.se,VV0];refine a1N a1.found (by rw [a5f];show s.I.length < _;omega) ?_
 have a2:At h0 C zr (C6 s n (c,ky,r)) (h1.set (h0.length + 6) (.dT none (tbD (A2 (fnd s.I) ky.t s.I.length)))):=by
  rw [b2g (c:=c) nw];obtain ⟨hs,rfl,pm,hp,dc,de⟩:=a1.ex;refine ⟨hs,?_,pm,hp,dc,de⟩;rw [L0];rfl
 have a2:At h0 C zr (C6 s n (c,ky,r)) (h1.set (h0.length + 6) (.dT none (tbD (A2 (fnd ({ y8 s n with rs:=s.rs ++ [r] }:Se).I) ky.t s.I.length)))):=a2;generalize h1.set (h0.length + 6) (.dT none (tbD (A2 (fnd ({ y8 s n with rs:=s.rs ++ [r] }:Se).I) ky.t s.I.length)))=h2 at *;subst hN;left
 have main:∀ zr2 h3,At h0 C zr2 (K3 F (C6 s n (c,ky,r)) c ky s.I.length) h3->N [some (.ref h0.length),some (nD c),some (tkD ky.t),some (rD r),some (nD s.I.length),none,none] h3:=by
  intro zr2 h3 a3;obtain ⟨p0,en0⟩:=b9n wf fu m0 top hF;dsimp only at p0 en0;have es:K6 F s n (c,ky,r)=(O5 F ky.p).foldl (G5 c ky s.I.length) (K3 F (C6 s n (c,ky,r)) c ky s.I.length):=rfl;rw [es] at q;generalize K3 F (C6 s n (c,ky,r)) c ky s.I.length=s1 at *;subst hN;simp only [V9 a3.se,t0,t2,VV0];refine ⟨C,ky.f,ky.p,F,rfl,hF,F6.2.2.2.2.1,?_⟩;simp only [VV];refine m8 (fun p δ h'=>(∃ x5 x6,δ=[some (.ref h0.length),some (nD c),some (tkD ky.t),some (rD r),some (nD s.I.length),x5,x6])/\∃ zr',At h0 C zr' (p.foldl (G5 c ky s.I.length) s1) h') ⟨⟨_,_,rfl⟩,zr2,a3⟩ (fun _ _ _ _=>Src.ok_nil) ?_ ?_
  ·rintro p x rr δ h' N1 ee ⟨⟨_,_,rfl⟩,zr3,a4⟩ hN1
   obtain ⟨E,j⟩:=x;have P:=Part.edges wf hF hd top en0 (es:=p) (fun E' n' h'=>mem_fromE.mp (by rw [ee];exact List.mem_append_left _ h')) p0;rw [List.nil_append] at P;obtain ⟨hE,hp⟩:=mem_fromE.mp (show (E,j) ∈ O5 F ky.p by rw [ee];exact List.mem_append_right _ List.mem_cons_self)
   have pl:p.length <= 100:=by
    have h1:=a1o F ky.p;rw [ee,List.length_append] at h1
    have:=F6.2.2.2.2.1
    omega
   obtain ⟨og,m2,oc⟩:=a7e wf P hF hE hp hd top en0 pl;rw [List.foldl_append] at hN1;have e1:[(E,j)].foldl (G5 c ky s.I.length) (p.foldl (G5 c ky s.I.length) s1)=G5 c ky s.I.length (p.foldl (G5 c ky s.I.length) s1) (E,j):=rfl;rw [e1] at hN1;have mP:=P.mid;clear e1 P;generalize p.foldl (G5 c ky s.I.length) s1=s2 at *;unfold G5 at hN1;dsimp only at hN1;simp only [neD,VV];refine ⟨trivial,?_⟩;left;simp only [VV1];refine ⟨Q9 a4.se rfl,h0,C,zr3,s2,c,s.I.length,j,ky,F,E,rfl,wf,a4,mP,hF,List.mem_of_getElem? hE,hd,og,fun h5 a5=>?_⟩;subst hN
   (try dsimp only);refine q8 fun A1 B1 hA hB=>?_;have k1:(Str.ofString "step" == Str.ofString "call")=false:=by decide +kernel
   have k2:(Str.ofString "call" == Str.ofString "call")=true:=by decide +kernel
   have k3:PyData.strOk (Str.ofString "step")=true:=by decide +kernel
   have k4:PyData.strOk (Str.ofString "call")=true:=by decide +kernel
   have k5:PyData.strOk (Str.ofString "step")=true:=k3
   cases hk:E.k with
   |step tt =>
    have is:E.isStep=true:=by unfold Edge.isStep;rw [hk]
    have ew:E.word=Str.ofString "step":=by unfold Edge.word;rw [hk]
    rw [if_pos is] at hN1;simp only [b7c,ew,k1,k3,k4,VV];subst hB;simp only [VV];exact hN1 _ _ ⟨⟨_,_,rfl⟩,_,a5⟩
   |call g i t o =>
    have is:¬ E.isStep=true:=by unfold Edge.isStep;rw [hk];exact Bool.false_ne_true
    have ew:E.word=Str.ofString "call":=by unfold Edge.word;rw [hk]
    obtain ⟨n2,o1,o2,o3,o4,o5,o6⟩:=oc g i t o hk;rw [if_neg is] at hN1;simp only [b7c,ew,k2,k3,k4,VV];subst hA;simp only [VV1];exact ⟨Q9 a5.se rfl,h0,C,zr3,_,c,s.I.length,j,ky,E,g,i,t,o,F.facts,n2,rfl,wf,a5,m2,hk,o1,hd,o2,o3,o4,o5,o6,fun zr' h6 a6=>hN1 _ _ ⟨⟨_,_,rfl⟩,_,a6⟩⟩
  ·rintro δ h' ⟨_,zr3,a4⟩
   simp only [VV];exact q _ _ a4
 (try dsimp only);refine q8 fun A1 B1 hA hB=>?_;simp only [V9 a2.se,t0,t2,VV0];refine ⟨cD C,C,ky.f,F,rfl,ChD.of _ C,hF,?_⟩
 by_cases exi:ky.p + 1=F.places
 ·have d1:((ky.p:Int) == (F.places:Int) - 1)=true:=beq_iff_eq.mpr (by right);simp only [d1,VV];subst hA;simp only [VV1];refine ⟨Q9 a2.se rfl,h0,C,zr,C6 s n (c,ky,r),c,s.I.length,ky,rfl,wf,a2,m0,f6,by right,?_,a9J wf fu top hF hd exi,fun zr' h' a3=>main zr' h' ?_⟩
  ·have:=fu.rc.el ky.f ky.a
   show (s.en ky.f ky.a).length < _;omega
  ·unfold K3;rw [if_pos exi];exact a3
 ·have d1:((ky.p:Int) == (F.places:Int) - 1)=false:=beq_eq_false_iff_ne.mpr (by right);simp only [d1,VV];subst hB;simp only [VV];refine main zr _ ?_;unfold K3;rw [if_neg exi];exact a2
theorem b6Z{f:Addr}{fd:FuncData}(F:Fun K "settle" "Search.settle" U6 f fd)(T:Txt P w K mg)(C_q38:Cal P w K mg base 1 "exit_of" ["chart","f"] (spD K 2 a1n))(C_q9:D8 P w K mg base 6 "Search" "come_to_end" ["self","cost","key","k"] (spD K 4 a9x))(C_q37:Cal P w K mg base 1 "edges_from" ["chart","f","p"] (spD K 3 a5z))(C_q11:D8 P w K mg base 5 "Search" "go_past" ["self","cost","key","k","n","edge"] (spD K 6 a3c))(C_q10:D8 P w K mg base 6 "Search" "go_in" ["self","cost","key","k","n","edge"] (spD K 6 a3o)):l9 P w K mg base CX0 7 f fd ["self","cost","key","row"] (spD K 4 a3n) :=
 l8 (k:=6) (b:=a3E) F sc_q12 (fun cdv A outer s H E hr=>by
  refine b9 ?_ ?_
  ·exact i5 (i:=4) sc_q12.nd rfl (Or.inl rfl) (k7 y6 rfl T.b_len PySem.boot_len (b4 (m7 T.f_rows (sv 0)) b8))
  refine b9 (t9 (v9 (m7 T.f_rows (sv 0)) (b4 (sv 3) b8))) ?_;refine b9 (a4h hr.units (m7 T.f_found (sv 0)) (sv 2) (sv 4)) ?_;refine b9 ?_ ?_
  ·refine v8 ?_ ?_ j9
   ·exact i9 (z9 hr.units) (c5 c4 (sv 2) b7) (f8 C_q38 (hr.mono (by decide)) rfl (b4 (m7 T.f_chart (sv 0)) (b4 (c5 c4 (sv 2) b7) b8)))
   refine c8 ?_;refine t9 ?_;exact D1 C_q9 (hr.mono (by decide)) (sv 0) (b4 (sv 1) (b4 (sv 2) (b4 (sv 4) b8)))
  refine c8 ?_;refine A5 PassesOwn.never rfl ?_ ?_ ?_
  ·exact y7 (f8 C_q37 (hr.mono (by decide)) rfl (b4 (m7 T.f_chart (sv 0)) (b4 (c5 c4 (sv 2) b7) (b4 (c5 c4 (sv 2) b7) b8))))
  ·exact Q8 rfl (p7 (i6 (i:=5) sc_q12.nd rfl (Or.inl rfl)) (p7 (i6 (i:=6) sc_q12.nd rfl (Or.inl rfl)) E4))
  refine b9 ?_ ?_
  ·refine t9 ?_;exact D1 C_q11 (hr.mono (by decide)) (sv 0) (b4 (sv 1) (b4 (sv 2) (b4 (sv 4) (b4 (sv 5) (b4 (sv 6) b8)))))
  refine c8 ?_;refine v8 (i9 (z9 hr.units) (c5 c4 (sv 6) b7) k9) ?_ j9;refine c8 ?_;refine t9 ?_;exact D1 C_q10 (hr.mono (by decide)) (sv 0) (b4 (sv 1) (b4 (sv 2) (b4 (sv 4) (b4 (sv 5) (b4 (sv 6) b8)))))) b2T
def a8b:DS:=(f7 (j0 (a1i "Search" a8X (b5 (b6 0) d7)) (c9 1))
  (f7 (y9 (C3 "Search" "begin" a9M (b6 1) d7))
  (f7 (j0 (C3 "Offers" "settled" a6e (dUn (p8 "Search" "offers") (b6 1)) d7) (c9 2))
  (f7 (V3 (n5 (dOp (pIs true) (b6 2) (dC .non))) (f7 (y9 (C3 "Search" "settle" a3n (b6 1) (b5 (dOp pIx (b6 2) (dC (.int 0))) (b5 (dOp pIx (b6 2) (dC (.int 1))) (b5 (dOp pIx (b6 2) (dC (.int 2))) d7)))))
  (j0 (C3 "Offers" "settled" a6e (dUn (p8 "Search" "offers") (b6 1)) d7) (c9 2))))
  (m5 (u0 (b5 (dUn (p8 "Search" "rows") (b6 1)) (b5 (dUn (p8 "Search" "found") (b6 1)) d7))))))))
def a5q:DSp:=fun ds h Q=>∃ C,ds=[cD C]/\WF C/\∀ (rs:List Row) (I:List (Ky×Nat)) (g:Hh) (i j:Nat),b8h C rs I->rs.length=I.length->I.length <= 2160->(∀ x ∈ I,K4 C x.1.t)->(h ++ g)[i]?=some (.lst (rs.map rD))->(h ++ g)[j]?=some (.dT none (tbD (fnd I)))->h.length <= j->Q (.tup [.ref i,.ref j]) (h ++ g)
theorem b4h:∀ ds h Q,a5q ds h Q->i7 3 a8b ds h Q:=by
 rintro ds h Q ⟨C,rfl,wf,q⟩
 delta i7 a8b;simp only [VS];left;simp only [VV];refine ⟨h.length,C,rfl,B3 _ _,rfl,?_⟩
 have a0:At h C ⟨[],[],[]⟩ se0 ((h ++ [O.ins "Search" []]).set h.length (.ins "Search" [("chart",cD C),("offers",.ref (h ++ [O.ins "Search" []]).length),("rows",.ref ((h ++ [O.ins "Search" []]).length + 4)),("found",.ref ((h ++ [O.ins "Search" []]).length + 5)),("calls",.ref ((h ++ [O.ins "Search" []]).length + 6)),("ends",.ref ((h ++ [O.ins "Search" []]).length + 7))]) ++ [.ins "Offers" [("queue",.ref ((h ++ [O.ins "Search" []]).length + 1)),("least",.ref ((h ++ [O.ins "Search" []]).length + 3))],qO ((h ++ [O.ins "Search" []]).length + 2) 0,.lst [],.dT none [],.lst [],.dT none [],.dT none [],.dT none []]):=by
  refine ⟨[],?_,.refl _,fun i _ h=>absurd h (Nat.not_lt_zero _),Dy.nil _ _ _,Dy.nil _ _ _⟩;rw [List.set_append_right _ _ (Nat.le_refl _),Nat.sub_self,List.length_append,List.length_singleton,List.append_assoc];rfl
 generalize ((h ++ [O.ins "Search" []]).set h.length (.ins "Search" [("chart",cD C),("offers",.ref (h ++ [O.ins "Search" []]).length),("rows",.ref ((h ++ [O.ins "Search" []]).length + 4)),("found",.ref ((h ++ [O.ins "Search" []]).length + 5)),("calls",.ref ((h ++ [O.ins "Search" []]).length + 6)),("ends",.ref ((h ++ [O.ins "Search" []]).length + 7))]) ++ [.ins "Offers" [("queue",.ref ((h ++ [O.ins "Search" []]).length + 1)),("least",.ref ((h ++ [O.ins "Search" []]).length + 3))],qO ((h ++ [O.ins "Search" []]).length + 2) 0,.lst [],.dT none [],.lst [],.dT none [],.dT none [],.dT none []])=h1 at *;subst hN;left;simp only [VV1];refine ⟨Q9 a0.se rfl,h,C,_,rfl,wf,a0,fun h2 a2=>?_⟩;obtain ⟨fu,e0⟩:=c0w wf;subst hN;left
 have main:∀ m δ h',((∃ zr s',Full C s'/\s'.pd=[]/\δ=[some (cD C),some (.ref h.length),some .non]/\At h C zr s' h')\/(∃ (zr:P5) (s':Se) (n:Nat) (x:Of),Full C s'/\m=2161 - s'.I.length/\n ∈ s'.pd/\s'.T[n]?=some x/\look s'.L x.2.1.t=some x.1/\(∀ k ∈ s'.pd,∀ y:Of,s'.T[k]?=some y->x.1 <= y.1)/\δ=[some (cD C),some (.ref h.length),some (.tup [nD x.1,tkD x.2.1.t,rD x.2.2])]/\At h C zr (y8 s' n) h'))->N δ h':=by
  intro m0 δ0 h3 p0;subst hN;left;refine U5 (fun m δ h'=>(∃ zr s',Full C s'/\s'.pd=[]/\δ=[some (cD C),some (.ref h.length),some .non]/\At h C zr s' h')\/(∃ (zr:P5) (s':Se) (n:Nat) (x:Of),Full C s'/\m=2161 - s'.I.length/\n ∈ s'.pd/\s'.T[n]?=some x/\look s'.L x.2.1.t=some x.1/\(∀ k ∈ s'.pd,∀ y:Of,s'.T[k]?=some y->x.1 <= y.1)/\δ=[some (cD C),some (.ref h.length),some (.tup [nD x.1,tkD x.2.1.t,rD x.2.2])]/\At h C zr (y8 s' n) h')) (m:=m0) p0 ?_
  rintro m δ h' N1 (⟨zr,s',f',pd,rfl,a'⟩ | ⟨zr,s',n,x,f',rfl,hn,ex,el,mn,rfl,a'⟩) hN1
  ·simp only [VV];subst hN;simp only [a0z a'.se,a1c a'.se,VV0];have r5:=a'.rows;have r6:=a'.found;obtain ⟨hs,rfl,_⟩:=a'.ex;exact q s'.rs s'.I _ _ _ (f'.done pd) f'.mid.rlen (f'.mid.Ifew wf) (fun x hx=>f'.mid.kI wf (c:=x.2) hx) r5 r6 (Nat.le_add_right _ _)
  ·obtain ⟨F,hF,hA,hP,hD⟩:=f'.mid.kT wf ex;obtain ⟨f2,eI⟩:=f'.settle wf hn ex el mn hF hD;have il:=f2.mid.Ifew wf;rw [eI,List.length_append,List.length_singleton] at il;simp only [VV];left;simp only [VV1];refine ⟨Q9 a'.se rfl,h,C,zr,s',n,x,F,rfl,wf,a',f',hn,ex,el,mn,hF,hA,hD,fun zr2 h4 a4=>?_⟩;subst hN;simp only [F5 a4.se,VV3];refine ⟨a0q a4.of rfl,h,C,zr2,_,rfl,wf,a4,f2,fun s3 h5 f3 i3 p3 a5=>?_,fun s3 n3 x3 h5 f3 i3 hn3 ex3 el3 mn3 a5=>?_⟩
   ·exact hN1 0 _ _ (by right) (.inl ⟨_,s3,f3,p3,rfl,a5⟩)
   ·exact hN1 (2161 - s3.I.length) _ _ (by rw [i3,eI,List.length_append,List.length_singleton];omega) (.inr ⟨_,s3,n3,x3,f3,rfl,hn3,ex3,el3,mn3,rfl,a5⟩)
 simp only [F5 a2.se,VV3];refine ⟨a0q a2.of rfl,h,C,_,_,rfl,wf,a2,fu,fun s3 h5 f3 i3 p3 a5=>main 0 _ _ (.inl ⟨_,s3,f3,p3,rfl,a5⟩),fun s3 n3 x3 h5 f3 i3 hn3 ex3 el3 mn3 a5=>main _ _ _ (.inr ⟨_,s3,n3,x3,f3,rfl,hn3,ex3,el3,mn3,rfl,a5⟩)⟩
theorem b5G{f:Addr}{fd:FuncData}(F:Fun K "inner" "inner" b0l f fd)(T:Txt P w K mg)(C_q7:D8 P w K mg base 5 "Search" "begin" ["self"] (spD K 1 a9M))(C_q2:D8 P w K mg base 5 "Offers" "settled" ["self"] (spD K 1 a6e))(C_q12:D8 P w K mg base 7 "Search" "settle" ["self","cost","key","row"] (spD K 4 a3n))(M_Search:W9 P w K mg base 5 "Search" ["self","chart"] (spD K 2 a8X)):l9 P w K mg base CX0 8 f fd ["chart"] (spD K 1 a5q) :=
 l8 (k:=7) (b:=a8b) F sc_q41 (fun cdv A outer s H E hr=>by
  refine b9 ?_ ?_
  ·exact i5 (i:=1) sc_q41.nd rfl (Or.inl rfl) (b4a M_Search (hr.mono (by decide)) rfl (b4 (sv 0) b8))
  refine b9 (t9 (O3 C_q7 (hr.mono (by decide)) (sv 1))) ?_;refine b9 ?_ ?_
  ·exact i5 (i:=2) sc_q41.nd rfl (Or.inl rfl) (O3 C_q2 (hr.mono (by decide)) (m7 T.f_offers (sv 1)))
  refine b9 ?_ ?_
  ·refine Z7 PassesOwn.never (i9 a2D (sv 2) n8) ?_;refine b9 ?_ ?_
   ·refine t9 ?_;exact D1 C_q12 (hr.mono (by decide)) (sv 1) (b4 (c5 c4 (sv 2) b7) (b4 (c5 c4 (sv 2) b7) (b4 (c5 c4 (sv 2) b7) b8)))
   refine c8 ?_;exact i5 (i:=2) sc_q41.nd rfl (Or.inl rfl) (O3 C_q2 (hr.mono (by decide)) (m7 T.f_offers (sv 1)))
  refine c8 ?_;refine j2 ?_;exact j4 (b4 (m7 T.f_rows (sv 1)) (b4 (m7 T.f_found (sv 1)) b8))) b4h
def a8w:DS:=(m5 (dOp z4 (dOp m9 (dOp m9 (dOp W8 (dOp z4 (b6 0) (dOp a6m (dC (.int 10)) (dC (.int 40)))) (dC (.int 982451653))) (dOp W8 (dC (.int 104395303)) (b6 1))) (dC (.int 7919))) (dC (.int 2305843009213693951))))
def S9:DSp:=fun ds h Q=>∃ (c:Int) (k:Nat),ds=[.int c,nD k]/\k <= 1000/\∀ r:Nat,Q (nD r) h
theorem b4B:∀ ds h Q,S9 ds h Q->i7 2 a8w ds h Q:=by
 rintro ds h Q ⟨c,k,rfl,hk,q⟩
 delta i7 a8w;simp only [VS];simp only [VV];refine ⟨⟨by decide,by decide,by decide⟩,by decide,c0j (by decide),a6b (by decide),by decide,?_⟩;have h0:=Int.emod_nonneg (c % 10 ^ Int.toNat 40 * 982451653 + 104395303 * (k:Int) + 7919) (show (2305843009213693951:Int) ≠ 0 by decide);obtain ⟨r,e⟩:=Int.eq_ofNat_of_zero_le h0;rw [e];exact q r
theorem b6D{f:Addr}{fd:FuncData}(F:Fun K "_law_number" "_law_number" a7d f fd)(T:Txt P w K mg):l9 P w K mg base CX0 1 f fd ["_law_cell_here","_law_k"] (spD K 2 S9) :=
 l8 (k:=0) (b:=a8w) F b6Y (fun cdv A outer s H E hr=>by
  refine c8 ?_;refine j2 ?_;exact d8 m4 (d8 j1 (d8 j1 (d8 C5 (d8 m4 (sv 0) (d8 a0P b7 b7)) b7) (d8 C5 b7 (sv 1))) b7) b7) b4B
def a7k:DS:=(f7 (v7 (n5 (dOp Y8 (b6 1) (dCB H9 (b5 (b6 0) d7)))) (m5 (dOp pIx (b6 0) (b6 1))) o0)
  (m5 (dOp m9 (dCB c0t (b5 (dSl (b6 0) T2 (a0A (dC (.int 6)))) d7)) (dOp W8 (dOp W8 (dC (.int 31)) (b6 1)) (b6 1)))))
def J5:DSp:=fun ds h Q=>∃ (ns:List Int) (k:Nat),ds=[.scr (ns.map .int),nD k]/\ns.length <= 63/\k <= 1000/\∀ r:Int,Q (.int r) h
theorem b3X:∀ ds h Q,J5 ds h Q->i7 2 a7k ds h Q:=by
 rintro ds h Q ⟨ns,k,rfl,hl,hk,q⟩
 delta i7 a7k;simp only [VS];left
 by_cases z:k < ns.length
 ·have e1:atI (ns.map D.int) (k:Int)=some (.int ns[k]):=by rw [atN,List.getElem?_map,List.getElem?_eq_getElem z];rfl
  have e2:((k:Int) < (ns.length:Int)):=by right
  simp only [List.length_map,e1,e2,VV];exact q _
 ·have e2:¬ ((k:Int) < (ns.length:Int)):=by right
  simp only [List.length_map,e2,VV];subst hN;simp only [VV]
  obtain ⟨ms,ec⟩:∃ ms:List Int,a0I (ns.map D.int) none (some 6)=ms.map D.int:=by
   unfold a0I;exact ⟨_,by rw [<- List.map_drop,<- List.map_take]⟩
  rw [ec];refine ⟨.lst (ms.map D.int),ms,rfl,rfl,?_⟩;simp only [VV];exact ⟨a6b (by right),a6b (by right),q _⟩
theorem b6B{f:Addr}{fd:FuncData}(F:Fun K "_law_cell" "_law_cell" a7P f fd)(T:Txt P w K mg):l9 P w K mg base CX0 1 f fd ["_law_script","_law_k"] (spD K 2 J5) :=
 l8 (k:=0) (b:=a7k) F b5R (fun cdv A outer s H E hr=>by
  refine b9 ?_ ?_
  ·refine v8 ?_ (c8 (j2 (c5 c4 (sv 0) (sv 1)))) j9;exact i9 F0 (sv 1) (k7 y6 rfl T.b_len PySem.boot_len (b4 (sv 0) b8))
  refine c8 ?_;refine j2 ?_;exact d8 j1 (k7 (b5V rfl) rfl T.b_sum PyProof.Rows.boot_sum (b4 (a3h (sv 0) Z8 (O9 b7)) b8)) (d8 C5 (d8 C5 b7 (sv 1)) (sv 1))) b3X
def a8h:DS:=(f7 (j0 (dOp a6E (dCB a9B (b5 (dOp Y8 (b6 1) (b6 2)) d7)) (b6 1)) (c9 4))
  (f7 (j0 (dOp a6E (dC (.int 1)) (dOp z4 (dOp F7 (b6 0) (dC (.int 8))) (b6 2))) (c9 5))
  (f7 (v7 (dTr (b6 3)) (m5 (dOp pIx (dV (b5 (b6 4) (b5 (b6 4) (b5 (b6 4) (b5 (b6 4) (b5 (b6 5) (b5 (b6 5) (b5 (b6 5) (b5 (dC (.int 0)) d7))))))))) (dOp z4 (b6 0) (dC (.int 8))))) o0)
  (m5 (dOp pIx (dV (b5 (b6 4) (b5 (b6 4) (b5 (b6 4) (b5 (b6 5) (b5 (dOp c0i (b6 4) (b6 5)) (b5 (dC (.int 0)) (b5 (dOp z4 (dOp F7 (b6 0) (dC (.int 8))) (dOp a6E (dC (.int 1)) (b6 2))) (b5 (b6 4) d7))))))))) (dOp z4 (b6 0) (dC (.int 8))))))))
theorem a8t(b y:Nat):((b:Int) * 2 ^ ((y:Nat):Int).toNat:Int)=((b * 2 ^ y:Nat):Int):=by rw [Int.toNat_natCast,Int.natCast_mul,Int.natCast_pow];rfl
def a4E:DSp:=fun ds h Q=>∃ (n d nf:Nat) (th:Bool),ds=[nD n,nD d,nD nf,.bl th]/\d <= 6/\1 <= nf/\nf <= 6/\∀ m:Nat,m < 2 ^ nf->Q (nD m) h
theorem b1U:∀ ds h Q,a4E ds h Q->i7 6 a8h ds h Q:=by
 rintro ds h Q ⟨n,d,nf,th,rfl,hd,n1,n6,q⟩
 delta i7 a8h;simp only [VS];left;simp only [VV]
 obtain ⟨ow,eo,ho⟩:∃ ow:Nat,(if decide ((d:Int) < (nf:Int))=true then 1 else 0:Int) * 2 ^ ((d:Nat):Int).toNat=(ow:Int)/\ow < 2 ^ nf:=by
  by_cases z:d < nf
  ·refine ⟨1 * 2 ^ d,?_,by rw [Nat.one_mul];exact Nat.pow_lt_pow_right (by decide) z⟩;rw [if_pos (decide_eq_true (by right)),<- a8t];rfl
  ·refine ⟨0,?_,Nat.two_pow_pos nf⟩;rw [if_neg (by rw [decide_eq_false (by right)];exact Bool.false_ne_true),Int.zero_mul];rfl
 refine ⟨⟨by right,by right,by split <;> decide⟩,?_⟩;rw [eo];subst hN;left;simp only [VV];have md:∀ b:Nat,(n:Int) / 8 % (b:Int)=((n / 8 % b:Nat):Int):=fun b=>by rw [Int.natCast_emod,Int.natCast_ediv];rfl
 have kl:n / 8 % nf < nf:=Nat.mod_lt _ n1;rw [md];obtain ⟨ot,et,hot⟩:∃ ot:Nat,(1:Int) * 2 ^ (((n / 8 % nf:Nat):Int)).toNat=(ot:Int)/\ot < 2 ^ nf:=⟨1 * 2 ^ (n / 8 % nf),by rw [<- a8t];rfl,by rw [Nat.one_mul];exact Nat.pow_lt_pow_right (by decide) kl⟩
 refine ⟨⟨by decide,by decide⟩,by right,⟨by right,by right,by decide⟩,?_⟩;rw [et];have z0:0 < 2 ^ nf:=Nat.two_pow_pos nf;have em:∃ r:Nat,(n:Int) % 8=(r:Int)/\r < 8:=⟨n % 8,by right,by right⟩
 obtain ⟨r,er,hr⟩:=em;subst hN;left
 (try dsimp only);refine q8 fun A1 B1 hA hB=>?_
 cases th with
 |true =>
  simp only [VV];subst hA;simp only [VV];refine ⟨by decide,?_⟩;rw [er]
  obtain rfl | rfl | rfl | rfl | rfl | rfl | rfl | rfl:r=0\/r=1\/r=2\/r=3\/r=4\/r=5\/r=6\/r=7:=by right
  ·exact q _ ho
  ·exact q _ ho
  ·exact q _ ho
  ·exact q _ ho
  ·exact q _ hot
  ·exact q _ hot
  ·exact q _ hot
  ·exact q 0 z0
 |false =>
  simp only [VV];subst hB;simp only [VV];subst hN;simp only [VV]
  have pw:(1:Int) * 2 ^ ((nf:Int)).toNat=((2 ^ nf:Nat):Int):=by
   have:=a8t 1 nf
   rw [Nat.one_mul] at this;exact this
  rw [pw,md,b3o,er];refine ⟨⟨by decide,by decide⟩,⟨by right,by right,by decide⟩,Int.ofNat_lt.mpr z0,by decide,?_⟩
  obtain rfl | rfl | rfl | rfl | rfl | rfl | rfl | rfl:r=0\/r=1\/r=2\/r=3\/r=4\/r=5\/r=6\/r=7:=by right
  ·exact q _ ho
  ·exact q _ ho
  ·exact q _ ho
  ·exact q _ hot
  ·exact q _ (Nat.or_lt_two_pow ho hot)
  ·exact q 0 z0
  ·exact q _ (Nat.mod_lt _ z0)
  ·exact q _ ho
theorem b5O{f:Addr}{fd:FuncData}(F:Fun K "_law_mask" "_law_mask" b0D f fd)(T:Txt P w K mg):l9 P w K mg base CX0 1 f fd ["_law_number_here","_law_d","_law_facts_here","_law_thin"] (spD K 4 a4E) :=
 l8 (k:=0) (b:=a8h) F sc_q25 (fun cdv A outer s H E hr=>by
  refine b9 ?_ ?_
  ·refine i5 (i:=4) sc_q25.nd rfl (Or.inl rfl) ?_;exact d8 a0d (J7 a3T rfl T.b_int PyProof.Rows.boot_int (b4 (D6 F0 (sv 1) (sv 2)) b8)) (sv 1)
  refine b9 ?_ ?_
  ·exact i5 (i:=5) sc_q25.nd rfl (Or.inl rfl) (d8 a0d b7 (d8 m4 (d8 u3 (sv 0) b7) (sv 2)))
  refine b9 ?_ ?_
  ·refine v8 (A8 (sv 3)) ?_ j9;refine c8 ?_;refine j2 ?_;exact c5 c4 (D4 (r9 (b4 (sv 4) (b4 (sv 4) (b4 (sv 4) (b4 (sv 4) (b4 (sv 5) (b4 (sv 5) (b4 (sv 5) (b4 b7 b8)))))))))) (d8 m4 (sv 0) b7)
  refine c8 ?_;refine j2 ?_;exact c5 c4 (D4 (r9 (b4 (sv 4) (b4 (sv 4) (b4 (sv 4) (b4 (sv 5) (b4 (d8 b6V (sv 4) (sv 5)) (b4 b7 (b4 (d8 m4 (d8 u3 (sv 0) b7) (d8 a0d b7 (sv 2))) (b4 (sv 4) b8)))))))))) (d8 m4 (sv 0) b7)) b1U
def a8i:DS:=(f7 (j0 (dOp z4 (dOp pIx (b6 0) (dC (.int 0))) (b6 1)) (c9 2))
  (f7 (j0 (dOp F7 (dOp pIx (b6 0) (dC (.int 0))) (b6 1)) (a0t (b6 0) (dC (.int 0))))
  (m5 (b6 2))))
def J0:DSp:=fun ds h Q=>∃ (i:Nat) (x:Int) (m:Nat),ds=[.ref i,nD m]/\h[i]?=some (.lst [.int x])/\1 <= m/\m <= 1000000/\∀ (y:Int) (r:Nat),r < m->Q (nD r) (h.set i (.lst [.int y]))
theorem b2E:∀ ds h Q,J0 ds h Q->i7 3 a8i ds h Q:=by
 rintro ds h Q ⟨i,x,m,rfl,e,m1,m6,q⟩
 delta i7 a8i;simp only [VS];left;simp only [A6 (l7 e),VV];refine ⟨by right,?_⟩
 obtain ⟨r,er,hr⟩:∃ r:Nat,x % (m:Int)=(r:Int)/\r < m:=by
  have h0:=Int.emod_nonneg x (show (m:Int) ≠ 0 by right);have h1:=Int.emod_lt_of_pos x (show (0:Int) < m by right);exact ⟨(x % (m:Int)).toNat,by right,by right⟩
 rw [er];subst hN;left;simp only [A6 (l7 e),e,VV];refine ⟨⟨by right,by right⟩,?_⟩;subst hN;simp only [VV];exact q _ r hr
theorem b5F{f:Addr}{fd:FuncData}(F:Fun K "_law_digit" "_law_digit" a8H f fd)(T:Txt P w K mg):l9 P w K mg base CX0 1 f fd ["_law_left","_law_many"] (spD K 2 J0) :=
 l8 (k:=0) (b:=a8i) F sc_q18 (fun cdv A outer s H E hr=>by
  refine b9 ?_ ?_
  ·exact i5 (i:=2) sc_q18.nd rfl (Or.inl rfl) (d8 m4 (c5 c4 (sv 0) b7) (sv 1))
  refine b9 ?_ (c8 (j2 (sv 2)));exact N0 (d8 u3 (c5 c4 (sv 0) b7) (sv 1)) (O6 (sv 0) b7)) b2E
def b0N:DS:=(m5 (dV (D3 [none,some 0] (v6 (b5 (dC (.int 6)) d7)) (c9 0) (n5 (dOp (pEq false) (dOp z4 (dOp F7 (b6 1) (dOp a6E (dC (.int 1)) (b6 0))) (dC (.int 2))) (dC (.int 1)))) (b6 0))))
theorem a6I{m:Nat}:(List.range 6).filter (fun e=>decide (m / 2 ^ e % 2=1))=K7 m:=by
 unfold K7;refine List.filter_congr fun e _=>?_;rw [Nat.testBit_eq_decide_div_mod_eq]
def a0h:DSp:=fun ds h Q=>∃ (m:Nat),ds=[nD m]/\Q (.lst ((K7 m).map nD)) h
theorem b4l:∀ ds h Q,a0h ds h Q->i7 1 b0N ds h Q:=by
 rintro ds h Q ⟨m,rfl,q⟩
 delta i7 b0N;simp only [VS];simp only [VV];refine ⟨⟨by decide,by decide⟩,by decide,?_⟩;rw [o8];refine a4y (fun e:Nat=>decide (m / 2 ^ e % 2=1)) (fun e=>nD e) Src.ok_nil none (fun y hy K k=>?_) (fun y hy _ K k=>?_) ?_
 ·have hy:y < 6:=List.mem_range.mp hy
  have pw:(1:Int) * 2 ^ ((y:Int)).toNat=((2 ^ y:Nat):Int):=by
   have:=a8t 1 y
   rw [Nat.one_mul] at this;exact this
  have p6:2 ^ y <= 2 ^ 6:=Nat.pow_le_pow_right (by decide) (by right);simp only [VV];rw [Int.zero_add,pw];have z0:0 < 2 ^ y:=Nat.two_pow_pos y
  have eb:((m:Int) / ((2 ^ y:Nat):Int) % 2 == 1)=decide (m / 2 ^ y % 2=1):=by
   rw [show (m:Int) / ((2 ^ y:Nat):Int) % 2=((m / 2 ^ y % 2:Nat):Int) by rw [Int.natCast_emod,Int.natCast_ediv];rfl]
   by_cases w:m / 2 ^ y % 2=1
   ·rw [decide_eq_true w,w];rfl
   ·rw [decide_eq_false w];exact beq_eq_false_iff_ne.mpr (by right)
  rw [eb];exact ⟨⟨by right,by right,by decide⟩,⟨by right,by right⟩,by decide,k⟩
 ·simp only [VV];rw [Int.zero_add];exact k
 ·rw [show (List.range (Int.toNat 6))=List.range 6 from rfl,a6I];exact q
theorem b7Q{f:Addr}{fd:FuncData}(F:Fun K "_law_facts" "_law_facts" a8k f fd)(T:Txt P w K mg):l9 P w K mg base CX0 1 f fd ["_law_mask_here"] (spD K 1 a0h) :=
 l8 (k:=0) (b:=b0N) F b7r (fun cdv A outer s H E hr=>by
  refine c8 ?_;refine j2 ?_;refine D4 ?_;exact z8 rfl (N':= ["_law_fact","_law_mask_here"]) (js:=[none,some 0]) ⟨rfl,by decide +kernel,rfl,rfl,rfl⟩ (t8 rfl T.b_range (b4 b7 b8)) (fun s0 H0 fp=>⟨(i6 (i:=0) (show (["_law_fact","_law_mask_here"]:List Str).Nodup by decide +kernel) rfl (Or.inl rfl)),(a2u (i9 (z9 hr.units) (d8 m4 (d8 u3 (sv 1) (d8 a0d b7 (sv 0))) b7) b7)),(sv 0)⟩)) b4l
def a8L:DS:=(m5 (dCB a2l (b5 (dV (D3 [none,some 0,some 1,some 3,some 4] (v6 (b5 (b6 2) d7)) (c9 0) L8 (j8 a4E (b5 (dOp F7 (j8 S9 (b5 (b6 1) (b5 (dOp m9 (dOp m9 (dC (.int 100)) (dOp W8 (dC (.int 10)) (b6 2))) (b6 0)) d7))) (dC (.int 5))) (b5 (b6 0) (b5 (b6 3) (b5 (b6 4) d7))))))) d7)))
def O4:DSp:=fun ds h Q=>∃ (c:Int) (k n m:Nat) (th:Bool),ds=[.int c,nD k,nD n,nD m,.bl th]/\k <= 10/\n <= 6/\1 <= m/\m <= 6/\∀ t,tOk t n m->Q (tD t) h
theorem b4c:∀ ds h Q,O4 ds h Q->i7 5 a8L ds h Q:=by
 rintro ds h Q ⟨c,k,n,m,th,rfl,hk,n6,m1,m6,q⟩
 delta i7 a8L;simp only [VS];simp only [VV];refine ⟨⟨by right,by right⟩,by rw [s9,Int.toNat_natCast];omega,?_⟩;rw [o8,Int.toNat_natCast];refine C8 (fun p acc δ h'=>h'=h/\(∃ o,δ=[o,some (.int c),some (nD k),some (nD m),some (.bl th)])/\∃ t:List Nat,acc=t.map nD/\t.length=p.length/\∀ x ∈ t,x < 2 ^ m) ⟨rfl,⟨_,rfl⟩,[],rfl,rfl,fun _ h=>nomatch h⟩ (fun _ _ _ _ _=>Src.ok_nil) ?_ ?_
 ·rintro p y r acc δ h' N1 e ⟨rfl,⟨o,rfl⟩,t,rfl,lt,ot⟩ hN1
  obtain ⟨rfl,hy⟩:=z5 e;simp only [VV];refine ⟨a6b (by decide),c,100 + 10 * k + p.length,?_,by right,fun r1=>?_⟩
  ·rw [Int.zero_add];rfl
  simp only [VV];refine ⟨by decide,r1 / 5,p.length,m,th,?_,by right,m1,m6,fun x hx=>hN1 _ _ _ ⟨rfl,⟨_,rfl⟩,t ++ [x],?_,by rw [List.length_append,List.length_append,lt];rfl,fun x' hx'=>?_⟩⟩
  ·rw [Int.zero_add];rfl
  ·rw [List.map_append];rfl
  ·rcases List.mem_append.mp hx' with z | z
   ·exact ot x' z
   ·rw [List.mem_singleton.mp z];exact hx
 ·rintro acc δ h' ⟨rfl,_,t,rfl,lt,ot⟩
  exact q t ⟨by rw [lt,List.length_range],ot⟩
theorem b8l{f:Addr}{fd:FuncData}(F:Fun K "_law_table" "_law_table" a9H f fd)(T:Txt P w K mg)(C_q26:Cal P w K mg base 1 "_law_number" ["_law_cell_here","_law_k"] (spD K 2 S9))(C_q25:Cal P w K mg base 1 "_law_mask" ["_law_number_here","_law_d","_law_facts_here","_law_thin"] (spD K 4 a4E)):l9 P w K mg base CX0 2 f fd ["_law_cell_here","_law_k","_law_facts_here","_law_others","_law_thin"] (spD K 5 O4) :=
 l8 (k:=1) (b:=a8L) F b7g (fun cdv A outer s H E hr=>by
  refine c8 ?_;refine j2 ?_;exact J7 a3j rfl T.b_tuple PyProof.Rows.boot_tuple (b4 (D4 (z8 rfl (N':= ["_law_d","_law_cell_here","_law_k","_law_others","_law_thin"]) (js:=[none,some 0,some 1,some 3,some 4]) ⟨rfl,by decide +kernel,rfl,rfl,rfl⟩ (t8 rfl T.b_range (b4 (sv 2) b8)) (fun s0 H0 fp=>⟨(i6 (i:=0) (show (["_law_d","_law_cell_here","_law_k","_law_others","_law_thin"]:List Str).Nodup by decide +kernel) rfl (Or.inl rfl)),G8,(f8 C_q25 (hr.mono (by decide)) rfl (b4 (d8 u3 (f8 C_q26 (hr.mono (by decide)) rfl (b4 (sv 1) (b4 (d8 j1 (d8 j1 b7 (d8 C5 b7 (sv 2))) (sv 0)) b8))) b7) (b4 (sv 0) (b4 (sv 3) (b4 (sv 4) b8)))))⟩))) b8)) b4c
def b0m:DS:=(m5 (dOp (pEq false) (dOp z4 (j8 J5 (b5 (b6 0) (b5 (dC (.int 0)) d7))) (dC (.int 2))) (dC (.int 1))))
def a4V:DSp:=fun ds h Q=>∃ (ns:List Int),ds=[.scr (ns.map .int)]/\ns.length <= 63/\∀ b:Bool,Q (.bl b) h
theorem b3F:∀ ds h Q,a4V ds h Q->i7 1 b0m ds h Q:=by
 rintro ds h Q ⟨ns,rfl,hl,q⟩
 delta i7 b0m;simp only [VS];simp only [VV];refine ⟨ns,0,rfl,hl,by decide,fun r=>?_⟩;simp only [VV];exact ⟨by decide,q _⟩
theorem b5M{f:Addr}{fd:FuncData}(F:Fun K "_law_by_digits" "_law_by_digits" b0f f fd)(T:Txt P w K mg)(C_q15:Cal P w K mg base 1 "_law_cell" ["_law_script","_law_k"] (spD K 2 J5)):l9 P w K mg base CX0 2 f fd ["_law_script"] (spD K 1 a4V) :=
 l8 (k:=1) (b:=b0m) F b6T (fun cdv A outer s H E hr=>by
  refine c8 ?_;refine j2 ?_;exact D6 (z9 hr.units) (d8 m4 (f8 C_q15 (hr.mono (by decide)) rfl (b4 (sv 0) (b4 b7 b8))) b7) b7) b3F
def b0H:DS:=(m5 (dCB a2l (b5 (dV (D3 [none,some 0,some 2] (v6 (b5 (b6 1) d7)) (c9 0) L8 (j8 J0 (b5 (b6 1) (b5 (dOp a6E (dC (.int 1)) (b6 2)) d7))))) d7)))
def a0g:DSp:=fun ds h Q=>∃ (i:Nat) (x:Int) (n m:Nat),ds=[.ref i,nD n,nD m]/\h[i]?=some (.lst [.int x])/\n <= 6/\1 <= m/\m <= 6/\∀ (y:Int) (t:List Nat),tOk t n m->Q (tD t) (h.set i (.lst [.int y]))
theorem b3B:∀ ds h Q,a0g ds h Q->i7 3 b0H ds h Q:=by
 rintro ds h Q ⟨i,x,n,m,rfl,e,n6,m1,m6,q⟩
 have hi:i < h.length:=(List.getElem?_eq_some_iff.mp e).1;have gs:∀ o:O,(h.set i o)[i]?=some o:=fun o=>List.getElem?_set_self hi;delta i7 b0H;simp only [VS];simp only [VV];refine ⟨⟨by right,by right⟩,by rw [s9,Int.toNat_natCast];omega,?_⟩;rw [o8,Int.toNat_natCast];refine C8 (fun p acc δ h'=>(∃ y:Int,h'=h.set i (.lst [.int y]))/\(∃ o,δ=[o,some (.ref i),some (nD m)])/\∃ t:List Nat,acc=t.map nD/\t.length=p.length/\∀ x ∈ t,x < 2 ^ m) ⟨⟨x,(a0f e).symm⟩,⟨_,rfl⟩,[],rfl,rfl,fun _ h=>nomatch h⟩ (fun _ _ _ _ _=>Src.ok_nil) ?_ ?_
 ·rintro p z r acc δ h' N1 e' ⟨⟨y,rfl⟩,⟨o,rfl⟩,t,rfl,lt,ot⟩ hN1
  have pw:(1:Int) * 2 ^ ((m:Int)).toNat=((2 ^ m:Nat):Int):=by
   have:=a8t 1 m
   rw [Nat.one_mul] at this;exact this
  simp only [VV];rw [pw];have p6:2 ^ m <= 2 ^ 6:=Nat.pow_le_pow_right (by decide) m6;refine ⟨⟨by right,by right,by decide⟩,i,y,2 ^ m,rfl,gs _,Nat.two_pow_pos m,Nat.le_trans p6 (by decide),fun y' r hr=>?_⟩;rw [List.set_set];refine hN1 _ _ _ ⟨⟨y',rfl⟩,⟨_,rfl⟩,t ++ [r],?_,by rw [List.length_append,List.length_append,lt];rfl,fun x' hx'=>?_⟩
  ·rw [List.map_append];rfl
  ·rcases List.mem_append.mp hx' with w | w
   ·exact ot x' w
   ·rw [List.mem_singleton.mp w];exact hr
 ·rintro acc δ h' ⟨⟨y,rfl⟩,_,t,rfl,lt,ot⟩
  exact q y t ⟨by rw [lt,List.length_range],ot⟩
theorem b6W{f:Addr}{fd:FuncData}(F:Fun K "_law_free_table" "_law_free_table" a7i f fd)(T:Txt P w K mg)(C_q18:Cal P w K mg base 1 "_law_digit" ["_law_left","_law_many"] (spD K 2 J0)):l9 P w K mg base CX0 2 f fd ["_law_left","_law_facts_here","_law_others"] (spD K 3 a0g) :=
 l8 (k:=1) (b:=b0H) F b8i (fun cdv A outer s H E hr=>by
  refine c8 ?_;refine j2 ?_;exact J7 a3j rfl T.b_tuple PyProof.Rows.boot_tuple (b4 (D4 (z8 rfl (N':= ["_law_d","_law_left","_law_others"]) (js:=[none,some 0,some 2]) ⟨rfl,by decide +kernel,rfl,rfl,rfl⟩ (t8 rfl T.b_range (b4 (sv 1) b8)) (fun s0 H0 fp=>⟨(i6 (i:=0) (show (["_law_d","_law_left","_law_others"]:List Str).Nodup by decide +kernel) rfl (Or.inl rfl)),G8,(f8 C_q18 (hr.mono (by decide)) rfl (b4 (sv 1) (b4 (d8 a0d b7 (sv 2)) b8)))⟩))) b8)) b3B
def a7h:DS:=(f7 (j0 (j8 J5 (b5 (b6 0) (b5 (dC (.int 0)) d7))) (c9 1))
  (f7 (j0 (dOp m9 (dC (.int 1)) (dOp z4 (b6 1) (dC (.int 3)))) (c9 2))
  (f7 (v7 (n5 (dOp (pEq false) (dOp z4 (dOp F7 (b6 1) (dC (.int 3))) (dC (.int 5))) (dC (.int 1)))) (j0 (dOp m9 (dC (.int 1)) (dOp z4 (dOp F7 (b6 1) (dC (.int 15))) (dC (.int 6)))) (c9 2)) o0)
  (f7 (j0 (dTk d7) (c9 3))
  (f7 (E2 (v6 (b5 (b6 2) d7)) (c9 4) (f7 (j0 (j8 S9 (b5 (j8 J5 (b5 (b6 0) (b5 (dC (.int 1)) d7))) (b5 (b6 4) d7))) (c9 5))
  (f7 (j0 (dOp m9 (dC (.int 1)) (dOp z4 (b6 5) (dC (.int 4)))) (c9 6))
  (f7 (v7 (n5 (dOp (pEq false) (dOp z4 (dOp F7 (b6 5) (dC (.int 40))) (dC (.int 6))) (dC (.int 1)))) (j0 (dOp m9 (dC (.int 1)) (dOp z4 (dOp F7 (b6 5) (dC (.int 240))) (dC (.int 10)))) (c9 6)) o0)
  (f7 (j0 (dOp m9 (dC (.int 1)) (dOp z4 (dOp F7 (b6 5) (dC (.int 3000))) (dC (.int 3)))) (c9 7))
  (f7 (v7 (n5 (dOp (pEq false) (dOp z4 (j8 J5 (b5 (b6 0) (b5 (dC (.int 2)) d7))) (dC (.int 6))) (dC (.int 1)))) (j0 (dOp m9 (dC (.int 1)) (dOp z4 (dOp F7 (b6 5) (dC (.int 9000))) (dC (.int 6)))) (c9 7)) o0)
  (y9 (B7 (b6 3) (b5 (u0 (b5 (b6 6) (b5 (b6 7) d7))) d7)))))))))
  (m5 (b6 3)))))))
def szD(x:Nat×Nat):D:=.tup [nD x.1,nD x.2]
def b8V(x:Nat×Nat):Prop:=1 <= x.1/\x.1 <= 10/\1 <= x.2/\x.2 <= 6
def a5u:DSp:=fun ds h Q=>∃ (ns:List Int),ds=[.scr (ns.map .int)]/\ns.length <= 63/\∀ zs:List (Nat×Nat),1 <= zs.length->zs.length <= 6->(∀ x ∈ zs,b8V x)->Q (.lst (zs.map szD)) h
theorem X7(r:Int)(b:Nat)(hb:0 < b):∃ a:Nat,1 + r % (b:Int)=(a:Int)/\1 <= a/\a <= b:=by
 have h0:=Int.emod_nonneg r (show (b:Int) ≠ 0 by right);have h1:=Int.emod_lt_of_pos r (show (0:Int) < b by right);exact ⟨(1 + r % (b:Int)).toNat,by right,by right,by right⟩
theorem b2s:∀ ds h Q,a5u ds h Q->i7 8 a7h ds h (Dr h Q):=by
 rintro ds h Q ⟨ns,rfl,hl,q⟩
 delta i7 a7h;simp only [VS];left;simp only [VV];refine ⟨ns,0,rfl,hl,by decide,fun r0=>?_⟩;subst hN;left;simp only [VV];obtain ⟨m0,e0,a0,b0⟩:=X7 r0 3 (by decide);rw [show (1:Int) + r0 % 3=(m0:Int) from e0];refine ⟨by decide,?_⟩;subst hN;left
 have main:∀ m:Nat,1 <= m->m <= 6->N [some (.scr (ns.map D.int)),some (.int r0),some (nD m),none,none,none,none,none] h:=by
  intro m m1 m6;subst hN;left;simp only [VV];subst hN;left;simp only [VV];refine ⟨⟨by right,by right⟩,?_⟩;rw [o8,Int.toNat_natCast];refine m8 (fun p δ h'=>(∃ x4 x5 x6 x7,δ=[some (.scr (ns.map D.int)),some (.int r0),some (nD m),some (.ref h.length),x4,x5,x6,x7])/\∃ zs:List (Nat×Nat),h'=h ++ [.lst (zs.map szD)]/\zs.length=p.length/\∀ x ∈ zs,b8V x) ⟨⟨_,_,_,_,rfl⟩,[],rfl,rfl,fun _ h=>nomatch h⟩ (fun _ _ _ _=>Src.ok_nil) ?_ ?_
  ·rintro p y r δ h' N1 e ⟨⟨_,_,_,_,rfl⟩,zs,rfl,lz,oz⟩ hN1
   obtain ⟨rfl,hy⟩:=z5 e;refine B0 ?_;left;simp only [VV];refine ⟨ns,1,rfl,hl,by decide,fun r1=>⟨r1,p.length,by rw [Int.zero_add],by right,fun n=>?_⟩⟩;subst hN;left;simp only [VV];obtain ⟨p0,ep,pa,pb⟩:=X7 (n:Int) 4 (by decide);rw [show (1:Int) + (n:Int) % 4=(p0:Int) from ep];refine ⟨by decide,?_⟩;subst hN;left
   have fin:∀ (pl fa:Nat) (K:Sl->Hh->Prop),1 <= pl->pl <= 10->1 <= fa->fa <= 6->N1 [some (.scr (ns.map D.int)),some (.int r0),some (nD m),some (.ref h.length),some (.int (0 + (p.length:Int))),some (nD n),some (nD pl),some (nD fa)] (h ++ [.lst ((zs ++ [(pl,fa)]).map szD)]):=fun pl fa K a1 a2 a3 a4=>hN1 _ _ ⟨⟨_,_,_,_,rfl⟩,zs ++ [(pl,fa)],rfl,by rw [List.length_append,List.length_append,lz];rfl,fun x hx=>by
    rcases List.mem_append.mp hx with z | z
    ·exact oz x z
    ·rw [List.mem_singleton.mp z];exact ⟨a1,a2,a3,a4⟩⟩
   have main2:∀ pl:Nat,1 <= pl->pl <= 10->∀ x7,N [some (.scr (ns.map D.int)),some (.int r0),some (nD m),some (.ref h.length),some (.int (0 + (p.length:Int))),some (nD n),some (nD pl),x7] (h ++ [.lst (zs.map szD)]):=by
    intro pl a1 a2 x7;subst hN;left;simp only [VV];obtain ⟨f0,ef,fa,fb⟩:=X7 ((n:Int) / 3000) 3 (by decide);rw [show (1:Int) + (n:Int) / 3000 % 3=(f0:Int) from ef];refine ⟨by decide,by decide,?_⟩;subst hN;left
    have main3:∀ fc:Nat,1 <= fc->fc <= 6->N [some (.scr (ns.map D.int)),some (.int r0),some (nD m),some (.ref h.length),some (.int (0 + (p.length:Int))),some (nD n),some (nD pl),some (nD fc)] (h ++ [.lst (zs.map szD)]):=by
     intro fc c1 c2;have e9:(h ++ [O.lst (zs.map szD)])[h.length]?=some (.lst (zs.map szD)):=B3 _ _;subst hN;simp only [e9,List.length_map,VV];refine ⟨by right,?_⟩;rw [List.set_append_right _ _ (Nat.le_refl _),Nat.sub_self]
     have:=fin pl fc (fun _ _=>True) a1 a2 c1 c2
     rw [List.map_append] at this;exact this
    (try dsimp only);refine q8 fun A1 B1 hA hB=>?_;simp only [VV];refine ⟨ns,2,rfl,hl,by decide,fun r2=>?_⟩;simp only [VV];refine ⟨by decide,M8 (fun _=>?_) (fun _=>?_)⟩
    ·subst hA;simp only [VV];obtain ⟨f1,eg,ga,gb⟩:=X7 ((n:Int) / 9000) 6 (by decide);rw [show (1:Int) + (n:Int) / 9000 % 6=(f1:Int) from eg];exact ⟨by decide,by decide,main3 f1 ga gb⟩
    ·subst hB;simp only [VV];exact main3 f0 fa (by right)
   (try dsimp only);refine q8 fun A1 B1 hA hB=>?_;simp only [VV];refine ⟨by decide,by decide,M8 (fun _=>?_) (fun _=>?_)⟩
   ·subst hA;simp only [VV];obtain ⟨p1,eq,qa,qb⟩:=X7 ((n:Int) / 240) 10 (by decide);rw [show (1:Int) + (n:Int) / 240 % 10=(p1:Int) from eq];exact ⟨by decide,by decide,main2 p1 qa qb _⟩
   ·subst hB;simp only [VV];exact main2 p0 pa (by right) _
  ·rintro δ h' ⟨⟨_,_,_,_,rfl⟩,zs,rfl,lz,oz⟩
   rw [List.length_range] at lz;subst hN;simp only [VV];exact Dr.dropL (g1:=[]) (g2:=[]) (F2 (fun _=>rfl) zs) rfl (q zs (by right) (by right) oz)
 (try dsimp only);refine q8 fun A1 B1 hA hB=>?_;simp only [VV];refine ⟨by decide,by decide,M8 (fun _=>?_) (fun _=>?_)⟩
 ·subst hA;simp only [VV];obtain ⟨m1,e1,a1,b1⟩:=X7 (r0 / 15) 6 (by decide);rw [show (1:Int) + r0 / 15 % 6=(m1:Int) from e1];exact ⟨by decide,by decide,main m1 a1 b1⟩
 ·subst hB;simp only [VV];exact main m0 a0 (by right)
theorem b6p{f:Addr}{fd:FuncData}(F:Fun K "_law_sizes" "_law_sizes" a9K f fd)(T:Txt P w K mg)(C_q15:Cal P w K mg base 1 "_law_cell" ["_law_script","_law_k"] (spD K 2 J5))(C_q26:Cal P w K mg base 1 "_law_number" ["_law_cell_here","_law_k"] (spD K 2 S9)):l9 P w K mg base CX0 2 f fd ["_law_script"] (spD K 1 a5u) :=
 a0F (k:=1) (b:=a7h) F sc_q27 (fun cdv A outer s H E hr=>by
  refine b9 ?_ ?_
  ·exact i5 (i:=1) sc_q27.nd rfl (Or.inl rfl) (f8 C_q15 (hr.mono (by decide)) rfl (b4 (sv 0) (b4 b7 b8)))
  refine b9 ?_ ?_
  ·exact i5 (i:=2) sc_q27.nd rfl (Or.inl rfl) (d8 j1 b7 (d8 m4 (sv 1) b7))
  refine b9 ?_ ?_
  ·refine v8 ?_ ?_ j9
   ·exact i9 (z9 hr.units) (d8 m4 (d8 u3 (sv 1) b7) b7) b7
   refine c8 ?_;exact i5 (i:=2) sc_q27.nd rfl (Or.inl rfl) (d8 j1 b7 (d8 m4 (d8 u3 (sv 1) b7) b7))
  refine b9 ?_ ?_
  ·exact i5 (i:=3) sc_q27.nd rfl (Or.inl rfl) (Z2 (r9 b8))
  refine b9 ?_ (c8 (j2 (sv 3)));refine A5 PassesOwn.never rfl (t8 rfl T.b_range (b4 (sv 2) b8)) (i6 (i:=4) sc_q27.nd rfl (Or.inl rfl)) ?_;refine b9 ?_ ?_
  ·refine i5 (i:=5) sc_q27.nd rfl (Or.inl rfl) ?_;exact f8 C_q26 (hr.mono (by decide)) rfl (b4 (f8 C_q15 (hr.mono (by decide)) rfl (b4 (sv 0) (b4 b7 b8))) (b4 (sv 4) b8))
  refine b9 ?_ ?_
  ·exact i5 (i:=6) sc_q27.nd rfl (Or.inl rfl) (d8 j1 b7 (d8 m4 (sv 5) b7))
  refine b9 ?_ ?_
  ·refine v8 ?_ ?_ j9
   ·exact i9 (z9 hr.units) (d8 m4 (d8 u3 (sv 5) b7) b7) b7
   refine c8 ?_;exact i5 (i:=6) sc_q27.nd rfl (Or.inl rfl) (d8 j1 b7 (d8 m4 (d8 u3 (sv 5) b7) b7))
  refine b9 ?_ ?_
  ·exact i5 (i:=7) sc_q27.nd rfl (Or.inl rfl) (d8 j1 b7 (d8 m4 (d8 u3 (sv 5) b7) b7))
  refine b9 ?_ ?_
  ·refine v8 ?_ ?_ j9
   ·exact i9 (z9 hr.units) (d8 m4 (f8 C_q15 (hr.mono (by decide)) rfl (b4 (sv 0) (b4 b7 b8))) b7) b7
   refine c8 ?_;exact i5 (i:=7) sc_q27.nd rfl (Or.inl rfl) (d8 j1 b7 (d8 m4 (d8 u3 (sv 5) b7) b7))
  refine c8 ?_;exact t9 (v9 (sv 3) (b4 (j4 (b4 (sv 6) (b4 (sv 7) b8))) b8))) b2s
def a9s:DS:=(f7 (j0 (j8 S9 (b5 (b6 0) (b5 (b6 1) d7))) (c9 4))
  (f7 (j0 (dOp z4 (b6 4) (dCB H9 (b5 (b6 2) d7))) (c9 5))
  (f7 (j0 (dOp pIx (b6 2) (b6 5)) (a2f 2 (u8 (c9 6) (u8 (c9 7) M6))))
  (f7 (j0 (dOp z4 (dOp F7 (b6 4) (dC (.int 100))) (b6 6)) (c9 8))
  (f7 (j0 (dOp pIx (dV (b5 (dCB b4A (b5 (dOp m9 (b6 8) (dC (.int 1))) (b5 (dOp a0Y (b6 6) (dC (.int 1))) d7))) (b5 (dOp z4 (dOp F7 (b6 4) (dC (.int 1000))) (b6 6)) d7))) (dOp z4 (dOp F7 (b6 4) (dC (.int 10000))) (dC (.int 2)))) (c9 9))
  (f7 (j0 (dOp z4 (dOp F7 (b6 4) (dC (.int 100000))) (dC (.int 9))) (c9 10))
  (f7 (j0 (dOp m9 (dC (.int 1)) (dOp pIx (dV (b5 (b6 10) (b5 (dOp z4 (j8 S9 (b5 (b6 0) (b5 (dC (.int 50)) d7))) (dOp a6m (dC (.int 10)) (dC (.int 18)))) (b5 (dOp a0Y (dOp a0Y (dOp a6m (dC (.int 10)) (dC (.int 18))) (dC (.int 1))) (b6 10)) d7)))) (dOp z4 (dOp F7 (b6 4) (dC (.int 1000000))) (dC (.int 3))))) (c9 11))
  (f7 (v7 (n5 (dOp Y8 (dOp z4 (dOp F7 (b6 4) (dC (.int 10000000))) (dC (.int 5))) (dC (.int 3)))) (m5 (dV (b5 (b6 5) (b5 (u0 (b5 (dC (.str "step")) (b5 (b6 8) (b5 (b6 9) (b5 (b6 11) (b5 (j8 O4 (b5 (b6 0) (b5 (dC (.int 1)) (b5 (b6 7) (b5 (b6 7) (b5 (a2Y (b6 3) (dOp pGt (dOp z4 (b6 1) (dC (.int 3))) (dC (.int 0)))) d7)))))) d7)))))) d7)))) o0)
  (f7 (j0 (dOp z4 (dOp F7 (b6 4) (dC (.int 100000000))) (dCB H9 (b5 (b6 2) d7))) (c9 12))
  (f7 (j0 (dOp pIx (dOp pIx (b6 2) (b6 12)) (dC (.int 1))) (c9 13))
  (f7 (j0 (j8 O4 (b5 (b6 0) (b5 (dC (.int 2)) (b5 (b6 7) (b5 (b6 13) (b5 (a2Y (b6 3) (dOp pGt (dOp z4 (b6 1) (dC (.int 4))) (dC (.int 0)))) d7)))))) (c9 14))
  (f7 (j0 (j8 O4 (b5 (b6 0) (b5 (dC (.int 3)) (b5 (b6 13) (b5 (b6 7) (b5 (a2Y (b6 3) (dOp (pEq true) (dOp z4 (b6 1) (dC (.int 4))) (dC (.int 1)))) d7)))))) (c9 15))
  (m5 (dV (b5 (b6 5) (b5 (u0 (b5 (dC (.str "call")) (b5 (b6 8) (b5 (b6 9) (b5 (b6 11) (b5 (b6 12) (b5 (b6 14) (b5 (b6 15) (b5 (j8 O4 (b5 (b6 0) (b5 (dC (.int 4)) (b5 (b6 7) (b5 (b6 7) (b5 (a2Y (b6 3) (dOp (pEq true) (dOp z4 (b6 1) (dC (.int 4))) (dC (.int 2)))) d7)))))) d7))))))))) d7))))))))))))))))
abbrev Hd:=List (Nat×Nat)
def hOk(hs:Hd):Prop:=∀ x ∈ hs,b8V x
def a8j(hs:Hd)(x:Nat×Nat)(e:Edge):Prop:=e.p < x.1/\e.q < x.1/\1 <= e.cost/\e.cost <= 10 ^ 18/\match e.k with
 |.step t=>tOk t x.2 x.2
 |.call g i b o=>∃ y,hs[g]?=some y/\tOk i x.2 y.2/\tOk b y.2 x.2/\tOk o x.2 x.2
theorem b6X(n b:Nat):(n:Int) % (b:Int)=((n % b:Nat):Int):=(Int.natCast_emod ..).symm
theorem c1y(n b:Nat):(n:Int) / (b:Int)=((n / b:Nat):Int):=(Int.natCast_ediv ..).symm
def a5k:DSp:=fun ds h Q=>∃ (c:Int) (k:Nat) (hd:D) (hs:Hd) (th:Bool),ds=[.int c,nD k,hd,.bl th]/\A4 h hd=some (hs.map szD)/\hOk hs/\1 <= hs.length/\hs.length <= 6/\k <= 1000/\∀ f x e,hs[f]?=some x->a8j hs x e->Q (.lst [nD f,eD e]) h
theorem b1I:∀ ds h Q,a5k ds h Q->i7 16 a9s ds h Q:=by
 rintro ds h Q ⟨c,k,hd,hs,th,rfl,hl,ok,h1,h6,hk,q⟩
 have sz:(hs.map szD).length=hs.length:=List.length_map ..;delta i7 a9s;simp only [VS];left;simp only [VV];refine ⟨c,k,rfl,hk,fun r=>?_⟩;subst hN;left;simp only [y0 hl,sz,VV];rw [b6X];refine ⟨by right,?_⟩;have fl:r % hs.length < hs.length:=Nat.mod_lt _ h1;generalize r % hs.length=f at fl;obtain ⟨x,hx⟩:∃ x,hs[f]?=some x:=⟨_,List.getElem?_eq_getElem fl⟩
 obtain ⟨o1,o2,o3,o4⟩:=ok x (List.mem_of_getElem? hx);have ix:ixD h hd (nD f)=some (szD x):=by rw [A6 hl,atN,List.getElem?_map,hx];rfl
 subst hN;left;simp only [ix,szD,VV];refine ⟨trivial,?_⟩;subst hN;left;simp only [VV];have md:∀ a b:Nat,(r:Int) / (a:Int) % (b:Int)=((r / a % b:Nat):Int):=fun a b=>by rw [c1y,b6X]
 rw [show (r:Int) / 100 % (x.1:Int)=((r / 100 % x.1:Nat):Int) from md 100 x.1];refine ⟨⟨by decide,by decide⟩,by right,?_⟩;have pl:r / 100 % x.1 < x.1:=Nat.mod_lt _ o1;generalize r / 100 % x.1=p at pl;subst hN;left;simp only [VV];rw [show (r:Int) / 1000 % (x.1:Int)=((r / 1000 % x.1:Nat):Int) from md 1000 x.1]
 obtain ⟨p',ep',hp'⟩:∃ p':Nat,atI [D.int (if (x.1:Int) - 1 < (p:Int) + 1 then (x.1:Int) - 1 else (p:Int) + 1),D.int ((r / 1000 % x.1:Nat):Int)] ((r:Int) / 10000 % 2)=some (nD p')/\p' < x.1:=by
  rcases (show (r:Int) / 10000 % 2=0\/(r:Int) / 10000 % 2=1 by right) with z | z
  ·rw [z]
   by_cases z2:(x.1:Int) - 1 < (p:Int) + 1
   ·rw [if_pos z2];exact ⟨x.1 - 1,by rw [show (x.1:Int) - 1=((x.1 - 1:Nat):Int) by right];rfl,by right⟩
   ·rw [if_neg z2];exact ⟨p + 1,rfl,by right⟩
  ·rw [z];exact ⟨_,rfl,Nat.mod_lt _ o1⟩
 rw [ep'];refine ⟨⟨by decide,by decide⟩,by right,⟨by decide,by decide⟩,by decide,?_⟩;subst hN;left;simp only [VV];rw [show (r:Int) / 100000 % 9=((r / 100000 % 9:Nat):Int) from md 100000 9];refine ⟨⟨by decide,by decide⟩,by decide,?_⟩;have sl:r / 100000 % 9 < 9:=Nat.mod_lt _ (by decide);generalize r / 100000 % 9=s at sl;subst hN;left;simp only [VV];refine ⟨c,50,rfl,by decide,fun u=>?_⟩;simp only [VV]
 obtain ⟨w,ew,w1,w2⟩:∃ w:Nat,atI [D.int (s:Int),D.int ((u:Int) % 10 ^ Int.toNat 18),D.int (10 ^ Int.toNat 18 - 1 - (s:Int))] ((r:Int) / 1000000 % 3)=some (nD w)/\w + 1 <= 10 ^ 18/\0 <= w:=by
  rcases (show (r:Int) / 1000000 % 3=0\/(r:Int) / 1000000 % 3=1\/(r:Int) / 1000000 % 3=2 by right) with z | z | z
  ·rw [z];exact ⟨s,rfl,by right,Nat.zero_le _⟩
  ·rw [z];refine ⟨u % 10 ^ 18,?_,Nat.mod_lt _ (by decide),Nat.zero_le _⟩;rw [show (u:Int) % 10 ^ Int.toNat 18=((u % 10 ^ 18:Nat):Int) from b6X u (10 ^ 18)];rfl
  ·rw [z];refine ⟨10 ^ 18 - 1 - s,?_,by right,Nat.zero_le _⟩;show some (D.int _)=some (D.int _)
   rw [show ((10:Int) ^ Int.toNat 18 - 1 - (s:Int))=((10 ^ 18 - 1 - s:Nat):Int) by
    have:(10:Int) ^ Int.toNat 18=1000000000000000000:=by decide
    omega]
 rw [ew];have cp:a6n 10 18:=⟨by decide,by decide,by decide⟩
 refine ⟨cp,by decide,cp,⟨by decide,by decide⟩,by decide,?_⟩;simp only [VV];obtain ⟨cst,hc⟩:∃ cst,w + 1=cst:=⟨_,rfl⟩
 rw [show (1:Int) + (w:Int)=((w + 1:Nat):Int) by right,hc];have c1:1 <= cst:=by right
 have c2:cst <= 10 ^ 18:=by right
 subst hN;left
 (try dsimp only);refine q8 fun A1 B1 hA hB=>?_;simp only [VV];refine ⟨⟨by decide,by decide⟩,by decide,M8 (fun _=>?_) (fun _=>?_)⟩
 ·subst hA;simp only [VV];have tb:∀ b,O4 [D.int c,D.int 1,nD x.2,nD x.2,.bl b] h fun t h1=>Q (.lst [.int f,.tup [.str (Str.ofString "step"),.int p,nD p',.int cst,t]]) h1:=fun b=>⟨c,1,x.2,x.2,b,rfl,by decide,o4,o3,o4,fun t ht=>q f x ⟨p,p',cst,.step t⟩ hx ⟨pl,hp',c1,c2,ht⟩⟩
  exact M8 (fun _=>⟨by decide,tb _⟩) (fun _=>tb _)
 ·subst hB;simp only [VV];subst hN;left;simp only [y0 hl,sz,VV];rw [show (r:Int) / 100000000 % (hs.length:Int)=((r / 100000000 % hs.length:Nat):Int) from md 100000000 hs.length];refine ⟨⟨by decide,by decide⟩,by right,?_⟩;have gl:r / 100000000 % hs.length < hs.length:=Nat.mod_lt _ h1;generalize r / 100000000 % hs.length=g at gl;obtain ⟨y,hy⟩:∃ y,hs[g]?=some y:=⟨_,List.getElem?_eq_getElem gl⟩
  obtain ⟨y1,y2,y3,y4⟩:=ok y (List.mem_of_getElem? hy);have ix2:ixD h hd (nD g)=some (szD y):=by rw [A6 hl,atN,List.getElem?_map,hy];rfl
  subst hN;left;simp only [ix2,szD,VV];subst hN;left;simp only [VV];have tb:∀ b,O4 [D.int c,D.int 2,nD x.2,nD y.2,.bl b] h fun t h1=>N [some (D.int c),some (nD k),some hd,some (D.bl th),some (nD r),some (.int f),some (nD x.1),some (nD x.2),some (.int p),some (nD p'),some (.int s),some (.int cst),some (.int g),some (nD y.2),some t,none] h1:=fun b=>⟨c,2,x.2,y.2,b,rfl,by decide,o4,y3,y4,fun ti hti=>?_⟩
  ·exact M8 (fun _=>⟨by decide,tb _⟩) (fun _=>tb _)
  subst hN;left;simp only [VV];have tb2:∀ b,O4 [D.int c,D.int 3,nD y.2,nD x.2,.bl b] h fun t h1=>N [some (D.int c),some (nD k),some hd,some (D.bl th),some (nD r),some (.int f),some (nD x.1),some (nD x.2),some (.int p),some (nD p'),some (.int s),some (.int cst),some (.int g),some (nD y.2),some (tD ti),some t] h1:=fun b=>⟨c,3,y.2,x.2,b,rfl,by decide,y4,o3,o4,fun tb htb=>?_⟩
  ·exact M8 (fun _=>⟨by decide,tb2 _⟩) (fun _=>tb2 _)
  subst hN;simp only [VV];have tb3:∀ b,O4 [D.int c,D.int 4,nD x.2,nD x.2,.bl b] h fun t h1=>Q (.lst [.int f,.tup [.str (Str.ofString "call"),.int p,nD p',.int cst,.int g,tD ti,tD tb,t]]) h1:=fun b=>⟨c,4,x.2,x.2,b,rfl,by decide,o4,o3,o4,fun to hto=>q f x ⟨p,p',cst,.call g ti tb to⟩ hx ⟨pl,hp',c1,c2,y,hy,hti,htb,hto⟩⟩
  exact M8 (fun _=>⟨by decide,tb3 _⟩) (fun _=>tb3 _)
theorem b7X{f:Addr}{fd:FuncData}(F:Fun K "_law_edge" "_law_edge" b0j f fd)(T:Txt P w K mg)(C_q26:Cal P w K mg base 1 "_law_number" ["_law_cell_here","_law_k"] (spD K 2 S9))(C_q28:Cal P w K mg base 2 "_law_table" ["_law_cell_here","_law_k","_law_facts_here","_law_others","_law_thin"] (spD K 5 O4)):l9 P w K mg base CX0 3 f fd ["_law_cell_here","_law_k","_law_sizes_here","_law_thin"] (spD K 4 a5k) :=
 l8 (k:=2) (b:=a9s) F sc_q19 (fun cdv A outer s H E hr=>by
  refine b9 ?_ ?_
  ·exact i5 (i:=4) sc_q19.nd rfl (Or.inl rfl) (f8 C_q26 (hr.mono (by decide)) rfl (b4 (sv 0) (b4 (sv 1) b8)))
  refine b9 ?_ ?_
  ·exact i5 (i:=5) sc_q19.nd rfl (Or.inl rfl) (d8 m4 (sv 4) (k7 y6 rfl T.b_len PySem.boot_len (b4 (sv 2) b8)))
  refine b9 ?_ ?_
  ·exact N0 (c5 c4 (sv 2) (sv 5)) (Q8 rfl (p7 (i6 (i:=6) sc_q19.nd rfl (Or.inl rfl)) (p7 (i6 (i:=7) sc_q19.nd rfl (Or.inl rfl)) E4)))
  refine b9 ?_ ?_
  ·exact i5 (i:=8) sc_q19.nd rfl (Or.inl rfl) (d8 m4 (d8 u3 (sv 4) b7) (sv 6))
  refine b9 ?_ ?_
  ·refine i5 (i:=9) ?_ ?_ ?_ ?_
   ·exact sc_q19.nd
   ·exact rfl
   ·exact Or.inl rfl
   exact c5 c4 (D4 (r9 (b4 (k7 (b0z rfl) rfl T.b_min PyProof.Rows.boot_min (b4 (d8 j1 (sv 8) b7) (b4 (d8 L6 (sv 6) b7) b8))) (b4 (d8 m4 (d8 u3 (sv 4) b7) (sv 6)) b8)))) (d8 m4 (d8 u3 (sv 4) b7) b7)
  refine b9 ?_ ?_
  ·exact i5 (i:=10) sc_q19.nd rfl (Or.inl rfl) (d8 m4 (d8 u3 (sv 4) b7) b7)
  refine b9 ?_ ?_
  ·refine i5 (i:=11) ?_ ?_ ?_ ?_
   ·exact sc_q19.nd
   ·exact rfl
   ·exact Or.inl rfl
   exact d8 j1 b7 (c5 c4 (D4 (r9 (b4 (sv 10) (b4 (d8 m4 (f8 C_q26 (hr.mono (by decide)) rfl (b4 (sv 0) (b4 b7 b8))) (d8 a0P b7 b7)) (b4 (d8 L6 (d8 L6 (d8 a0P b7 b7) b7) (sv 10)) b8))))) (d8 m4 (d8 u3 (sv 4) b7) b7))
  refine b9 ?_ ?_
  ·refine v8 (i9 F0 (d8 m4 (d8 u3 (sv 4) b7) b7) b7) ?_ j9;refine c8 ?_;refine j2 ?_;refine D4 ?_;refine r9 (n:=2) ?_;refine b4 (sv 5) ?_;refine b4 ?_ b8;refine j4 (n:=5) ?_;refine b4 k9 ?_;refine b4 (sv 8) ?_;refine b4 (sv 9) ?_;refine b4 (sv 11) ?_;refine b4 ?_ b8;exact f8 C_q28 (hr.mono (by decide)) rfl (b4 (sv 0) (b4 b7 (b4 (sv 7) (b4 (sv 7) (b4 (a2n (sv 3) (a1M (D6 a0G (d8 m4 (sv 1) b7) b7))) b8)))))
  refine b9 ?_ ?_
  ·refine i5 (i:=12) sc_q19.nd rfl (Or.inl rfl) ?_;exact d8 m4 (d8 u3 (sv 4) b7) (k7 y6 rfl T.b_len PySem.boot_len (b4 (sv 2) b8))
  refine b9 ?_ ?_
  ·exact i5 (i:=13) sc_q19.nd rfl (Or.inl rfl) (c5 c4 (c5 c4 (sv 2) (sv 12)) b7)
  refine b9 ?_ ?_
  ·refine i5 (i:=14) sc_q19.nd rfl (Or.inl rfl) ?_;exact f8 C_q28 (hr.mono (by decide)) rfl (b4 (sv 0) (b4 b7 (b4 (sv 7) (b4 (sv 13) (b4 (a2n (sv 3) (a1M (D6 a0G (d8 m4 (sv 1) b7) b7))) b8)))))
  refine b9 ?_ ?_
  ·refine i5 (i:=15) sc_q19.nd rfl (Or.inl rfl) ?_;exact f8 C_q28 (hr.mono (by decide)) rfl (b4 (sv 0) (b4 b7 (b4 (sv 13) (b4 (sv 7) (b4 (a2n (sv 3) (a1M (D6 (L9 hr.units) (d8 m4 (sv 1) b7) b7))) b8)))))
  refine c8 ?_;refine j2 ?_;refine D4 ?_;refine r9 (n:=2) ?_;refine b4 (sv 5) ?_;refine b4 ?_ b8;refine j4 (n:=8) ?_;refine b4 k9 ?_;refine b4 (sv 8) ?_;refine b4 (sv 9) ?_;refine b4 (sv 11) ?_;refine b4 (sv 12) ?_;refine b4 (sv 14) ?_;refine b4 (sv 15) ?_;refine b4 ?_ b8;exact f8 C_q28 (hr.mono (by decide)) rfl (b4 (sv 0) (b4 b7 (b4 (sv 7) (b4 (sv 7) (b4 (a2n (sv 3) (a1M (D6 (L9 hr.units) (d8 m4 (sv 1) b7) b7))) b8)))))) b1I
def a9f:DS:=(f7 (j0 (dTk (b5 (b6 0) d7)) (c9 2))
  (f7 (j0 (j8 J0 (b5 (b6 2) (b5 (dCB H9 (b5 (b6 1) d7)) d7))) (c9 3))
  (f7 (j0 (dOp pIx (b6 1) (b6 3)) (a2f 2 (u8 (c9 4) (u8 (c9 5) M6))))
  (f7 (j0 (u0 (b5 (j8 J0 (b5 (b6 2) (b5 (b6 4) d7))) (b5 (j8 J0 (b5 (b6 2) (b5 (b6 4) d7))) d7))) (c9 6))
  (f7 (v7 (n5 (dOp (pEq false) (j8 J0 (b5 (b6 2) (b5 (dC (.int 2)) d7))) (dC (.int 0)))) (f7 (j0 (j8 a0g (b5 (b6 2) (b5 (b6 5) (b5 (b6 5) d7)))) (c9 7))
  (m5 (dV (b5 (b6 3) (b5 (dOp m9 (dOp m9 (u0 (b5 (dC (.str "step")) d7)) (b6 6)) (u0 (b5 (dOp m9 (dC (.int 1)) (dOp z4 (dOp pIx (b6 2) (dC (.int 0))) (dOp a6m (dC (.int 10)) (dC (.int 18))))) (b5 (b6 7) d7)))) d7))))) o0)
  (f7 (j0 (j8 J0 (b5 (b6 2) (b5 (dCB H9 (b5 (b6 1) d7)) d7))) (c9 8))
  (f7 (j0 (j8 a0g (b5 (b6 2) (b5 (b6 5) (b5 (dOp pIx (dOp pIx (b6 1) (b6 8)) (dC (.int 1))) d7)))) (c9 9))
  (f7 (j0 (j8 a0g (b5 (b6 2) (b5 (dOp pIx (dOp pIx (b6 1) (b6 8)) (dC (.int 1))) (b5 (b6 5) d7)))) (c9 10))
  (f7 (j0 (j8 a0g (b5 (b6 2) (b5 (b6 5) (b5 (b6 5) d7)))) (c9 11))
  (m5 (dV (b5 (b6 3) (b5 (dOp m9 (dOp m9 (u0 (b5 (dC (.str "call")) d7)) (b6 6)) (u0 (b5 (dOp m9 (dC (.int 1)) (dOp z4 (dOp pIx (b6 2) (dC (.int 0))) (dOp a6m (dC (.int 10)) (dC (.int 18))))) (b5 (b6 8) (b5 (b6 9) (b5 (b6 10) (b5 (b6 11) d7))))))) d7)))))))))))))
theorem nr2(f:Nat)(e:Edge):nrD (.lst [nD f,eD e])=true:=by
 show (true && (nrD (eD e) && true))=true;rw [a4i];rfl
def a4T:DSp:=fun ds h Q=>∃ (c:Int) (hd:D) (hs:Hd),ds=[.int c,hd]/\A4 h hd=some (hs.map szD)/\hOk hs/\1 <= hs.length/\hs.length <= 6/\∀ f x e,hs[f]?=some x->a8j hs x e->Q (.lst [nD f,eD e]) h
theorem b2B:∀ ds h Q,a4T ds h Q->i7 12 a9f ds h (Dr h Q):=by
 rintro ds h Q ⟨c,hd,hs,rfl,hl,ok,h1,h6,q⟩
 have pr:∀ o,Pre h (h ++ [o]):=fun o=>Pre.app _ _;have sz:(hs.map szD).length=hs.length:=List.length_map ..;delta i7 a9f;simp only [VS];left;simp only [VV];subst hN;left;simp only [y0 ((pr _).ls hl),sz,VV];refine ⟨h.length,_,_,rfl,u9 ..,h1,by right,fun s1 f fl=>?_⟩;rw [A9];obtain ⟨x,hx⟩:∃ x,hs[f]?=some x:=⟨_,List.getElem?_eq_getElem fl⟩
 obtain ⟨o1,o2,o3,o4⟩:=ok x (List.mem_of_getElem? hx);have ix:∀ o,ixD (h ++ [o]) hd (nD f)=some (szD x):=fun o=>by rw [A6 ((pr o).ls hl),atN,List.getElem?_map,hx];rfl
 subst hN;left;simp only [ix,szD,VV];refine ⟨trivial,?_⟩;subst hN;left;simp only [VV];refine ⟨h.length,_,_,rfl,u9 ..,o1,by right,fun s2 p hp=>?_⟩;rw [A9];simp only [VV];refine ⟨h.length,_,_,rfl,u9 ..,o1,by right,fun s3 p' hp'=>?_⟩;rw [A9];have cst:∀ s:Int,∃ w:Nat,(1:Int) + s % 10 ^ Int.toNat 18=(w:Int)/\1 <= w/\w <= 10 ^ 18:=fun s=>X7 s (10 ^ 18) (by decide);have cp:a6n 10 18:=⟨by decide,by decide,by decide⟩
 subst hN;left
 (try dsimp only);refine q8 fun A1 B1 hA hB=>?_;simp only [VV];refine ⟨h.length,_,2,rfl,u9 ..,by decide,by decide,fun s4 r4 hr4=>?_⟩;rw [A9];simp only [VV];refine M8 (fun _=>?_) (fun _=>?_)
 ·subst hA;left;simp only [VV];refine ⟨h.length,_,x.2,x.2,rfl,u9 ..,o4,o3,o4,fun s5 t ht=>?_⟩;rw [A9];subst hN;simp only [A6 (l7 (u9 h _)),VV];obtain ⟨w,ew,w1,w2⟩:=cst s5;rw [ew];refine ⟨List.cons_ne_nil _ _,by decide,cp,by decide,List.cons_ne_nil _ _,by decide,?_⟩;have nr:nrD (.lst [nD f,eD ⟨p,p',w,.step t⟩])=true:=nr2 f _;exact Dr.drop nr (q f x ⟨p,p',w,.step t⟩ hx ⟨hp,hp',w1,w2,ht⟩)
 ·subst hB;simp only [VV];subst hN;left;simp only [y0 ((pr _).ls hl),sz,VV];refine ⟨h.length,_,_,rfl,u9 ..,h1,by right,fun s5 g gl=>?_⟩;rw [A9];obtain ⟨y,hy⟩:∃ y,hs[g]?=some y:=⟨_,List.getElem?_eq_getElem gl⟩
  obtain ⟨y1,y2,y3,y4⟩:=ok y (List.mem_of_getElem? hy);have ix2:∀ o,ixD (h ++ [o]) hd (nD g)=some (szD y):=fun o=>by rw [A6 ((pr o).ls hl),atN,List.getElem?_map,hy];rfl
  subst hN;left;simp only [ix2,szD,VV];refine ⟨h.length,_,x.2,y.2,rfl,u9 ..,o4,y3,y4,fun s6 ti hti=>?_⟩;rw [A9];subst hN;left;simp only [ix2,szD,VV];refine ⟨h.length,_,y.2,x.2,rfl,u9 ..,y4,o3,o4,fun s7 tb htb=>?_⟩;rw [A9];subst hN;left;simp only [VV];refine ⟨h.length,_,x.2,x.2,rfl,u9 ..,o4,o3,o4,fun s8 to hto=>?_⟩;rw [A9];subst hN;simp only [A6 (l7 (u9 h _)),VV];obtain ⟨w,ew,w1,w2⟩:=cst s8;rw [ew];refine ⟨List.cons_ne_nil _ _,by decide,cp,by decide,List.cons_ne_nil _ _,by decide,?_⟩;have nr:nrD (.lst [nD f,eD ⟨p,p',w,.call g ti tb to⟩])=true:=nr2 f _;exact Dr.drop nr (q f x ⟨p,p',w,.call g ti tb to⟩ hx ⟨hp,hp',w1,w2,y,hy,hti,htb,hto⟩)
theorem b5z{f:Addr}{fd:FuncData}(F:Fun K "_law_free_edge" "_law_free_edge" a7K f fd)(T:Txt P w K mg)(C_q18:Cal P w K mg base 1 "_law_digit" ["_law_left","_law_many"] (spD K 2 J0))(C_q23:Cal P w K mg base 2 "_law_free_table" ["_law_left","_law_facts_here","_law_others"] (spD K 3 a0g)):l9 P w K mg base CX0 3 f fd ["_law_cell_here","_law_sizes_here"] (spD K 2 a4T) :=
 a0F (k:=2) (b:=a9f) F sc_q22 (fun cdv A outer s H E hr=>by
  refine b9 ?_ ?_
  ·exact i5 (i:=2) sc_q22.nd rfl (Or.inl rfl) (Z2 (r9 (b4 (sv 0) b8)))
  refine b9 ?_ ?_
  ·refine i5 (i:=3) sc_q22.nd rfl (Or.inl rfl) ?_;exact f8 C_q18 (hr.mono (by decide)) rfl (b4 (sv 2) (b4 (k7 y6 rfl T.b_len PySem.boot_len (b4 (sv 1) b8)) b8))
  refine b9 ?_ ?_
  ·exact N0 (c5 c4 (sv 1) (sv 3)) (Q8 rfl (p7 (i6 (i:=4) sc_q22.nd rfl (Or.inl rfl)) (p7 (i6 (i:=5) sc_q22.nd rfl (Or.inl rfl)) E4)))
  refine b9 ?_ ?_
  ·refine i5 (i:=6) ?_ ?_ ?_ ?_
   ·exact sc_q22.nd
   ·exact rfl
   ·exact Or.inl rfl
   refine j4 (n:=2) ?_;refine b4 (f8 C_q18 (hr.mono (by decide)) rfl (b4 (sv 2) (b4 (sv 4) b8))) ?_;exact b4 (f8 C_q18 (hr.mono (by decide)) rfl (b4 (sv 2) (b4 (sv 4) b8))) b8
  refine b9 ?_ ?_
  ·refine v8 ?_ ?_ j9
   ·exact i9 (z9 hr.units) (f8 C_q18 (hr.mono (by decide)) rfl (b4 (sv 2) (b4 b7 b8))) b7
   refine b9 ?_ ?_
   ·refine i5 (i:=7) sc_q22.nd rfl (Or.inl rfl) ?_;exact f8 C_q23 (hr.mono (by decide)) rfl (b4 (sv 2) (b4 (sv 5) (b4 (sv 5) b8)))
   refine c8 ?_;refine j2 ?_;refine D4 ?_;refine r9 (n:=2) ?_;refine b4 (sv 3) ?_;refine b4 ?_ b8;exact d8 j1 (d8 j1 (j4 (b4 k9 b8)) (sv 6)) (j4 (b4 (d8 j1 b7 (d8 m4 (c5 c4 (sv 2) b7) (d8 a0P b7 b7))) (b4 (sv 7) b8)))
  refine b9 ?_ ?_
  ·refine i5 (i:=8) sc_q22.nd rfl (Or.inl rfl) ?_;exact f8 C_q18 (hr.mono (by decide)) rfl (b4 (sv 2) (b4 (k7 y6 rfl T.b_len PySem.boot_len (b4 (sv 1) b8)) b8))
  refine b9 ?_ ?_
  ·refine i5 (i:=9) sc_q22.nd rfl (Or.inl rfl) ?_;exact f8 C_q23 (hr.mono (by decide)) rfl (b4 (sv 2) (b4 (sv 5) (b4 (c5 c4 (c5 c4 (sv 1) (sv 8)) b7) b8)))
  refine b9 ?_ ?_
  ·refine i5 (i:=10) sc_q22.nd rfl (Or.inl rfl) ?_;exact f8 C_q23 (hr.mono (by decide)) rfl (b4 (sv 2) (b4 (c5 c4 (c5 c4 (sv 1) (sv 8)) b7) (b4 (sv 5) b8)))
  refine b9 ?_ ?_
  ·refine i5 (i:=11) sc_q22.nd rfl (Or.inl rfl) ?_;exact f8 C_q23 (hr.mono (by decide)) rfl (b4 (sv 2) (b4 (sv 5) (b4 (sv 5) b8)))
  refine c8 ?_;refine j2 ?_;refine D4 ?_;refine r9 (n:=2) ?_;refine b4 (sv 3) ?_;refine b4 ?_ b8;exact d8 j1 (d8 j1 (j4 (b4 k9 b8)) (sv 6)) (j4 (b4 (d8 j1 b7 (d8 m4 (c5 c4 (sv 2) b7) (d8 a0P b7 b7))) (b4 (sv 8) (b4 (sv 9) (b4 (sv 10) (b4 (sv 11) b8))))))) b2B
def a9N:DS:=(f7 (j0 (dTk (b5 (j8 J5 (b5 (b6 0) (b5 (dC (.int 1)) d7))) d7)) (c9 1))
  (f7 (j0 (dTk d7) (c9 2))
  (f7 (E2 (v6 (b5 (dOp m9 (dC (.int 1)) (dOp z4 (dOp F7 (j8 J5 (b5 (b6 0) (b5 (dC (.int 0)) d7))) (dC (.int 2))) (dC (.int 6)))) d7)) (c9 3) (f7 (j0 (dOp m9 (dC (.int 1)) (j8 J0 (b5 (b6 1) (b5 (dC (.int 10)) d7)))) (c9 4))
  (y9 (B7 (b6 2) (b5 (u0 (b5 (b6 4) (b5 (dOp m9 (dC (.int 1)) (j8 J0 (b5 (b6 1) (b5 (dC (.int 6)) d7)))) d7))) d7)))))
  (f7 (j0 (dV (D3 [none] (C0 (b6 2)) (c9 0) L8 (dTk d7))) (c9 5))
  (f7 (j0 (dOp pIx (dV (b5 (dC (.int 0)) (b5 (dC (.int 24)) (b5 (dC (.int 24)) (b5 (dC (.int 14)) (b5 (dC (.int 6)) (b5 (dC (.int 2)) (b5 (dC (.int 1)) d7)))))))) (dCB a7g (b5 (dV (D3 [none] (C0 (b6 2)) (c9 0) L8 (dOp pIx (b6 0) (dC (.int 1))))) d7))) (c9 6))
  (f7 (E2 (C0 (dSl (b6 0) (a0A (dC (.int 6))) (a0A (dOp m9 (dC (.int 6)) (b6 6))))) (c9 7) (f7 (j0 (j8 a4T (b5 (b6 7) (b5 (b6 2) d7))) (a5H 2 (u8 (c9 3) (u8 (c9 8) M6))))
  (y9 (B7 (dOp pIx (b6 5) (b6 3)) (b5 (b6 8) d7)))))
  (m5 (dV (D3 [none,some 2,some 5] (v6 (b5 (dCB H9 (b5 (b6 2) d7)) d7)) (c9 0) L8 (u0 (b5 (dOp pIx (dOp pIx (b6 1) (b6 0)) (dC (.int 0))) (b5 (dOp pIx (dOp pIx (b6 1) (b6 0)) (dC (.int 1))) (b5 (dOp pIx (b6 2) (b6 0)) d7)))))))))))))
def eO(l:List Edge):O:=.lst (l.map eD)
theorem a2c{g:Hh}{es:List (List Edge)}{f:Nat}{l:List Edge}(e:es[f]?=some l):(g ++ es.map eO)[g.length + f]?=some (eO l):=by
 rw [List.getElem?_append_right (by right),show g.length + f - g.length=f by right,List.getElem?_map,e];rfl
theorem b0y{g:Hh}{es:List (List Edge)}{f:Nat}{l:List Edge}:(g ++ es.map eO).set (g.length + f) (eO l)=g ++ (es.set f l).map eO:=by
 rw [List.set_append_right _ _ (by right),show g.length + f - g.length=f by right,List.map_set]
theorem a7M(ns:List Int)(lo hi:Option Int):∃ ms:List Int,a0I (ns.map D.int) lo hi=ms.map D.int/\ms.length <= ns.length:=by
 refine ⟨(ns.drop (HT.sIx ns.length 0 lo)).take (HT.sIx ns.length ns.length hi - HT.sIx ns.length 0 lo),?_,?_⟩
 ·unfold a0I;rw [List.length_map,<- List.map_drop,<- List.map_take]
 ·exact Nat.le_trans (List.length_take_le' ..) (by rw [List.length_drop];exact Nat.sub_le ..)
def mkC(hs:Hd)(es:List (List Edge)):d9:=(hs.zip es).map fun x=>⟨x.1.1,x.1.2,x.2⟩
theorem b2m{hs:Hd}{es:List (List Edge)}(hl:es.length=hs.length){f:Nat}{F:Fn}(e:(mkC hs es)[f]?=some F):∃ x l,hs[f]?=some x/\es[f]?=some l/\F=⟨x.1,x.2,l⟩:=by
 unfold mkC at e;rw [List.getElem?_map] at e
 cases q:(hs.zip es)[f]? with
 |none=>rw [q] at e;cases e
 |some y =>
  rw [q] at e;cases e;rw [List.getElem?_zip_eq_some] at q;exact ⟨y.1,y.2,q.1,q.2,rfl⟩
theorem a7m{hs:Hd}{es:List (List Edge)}{f:Nat}{x:Nat×Nat}{l:List Edge}(h1:hs[f]?=some x)(h2:es[f]?=some l):(mkC hs es)[f]?=some ⟨x.1,x.2,l⟩:=by
 unfold mkC;rw [List.getElem?_map,List.getElem?_zip_eq_some (z:=(x,l)) |>.mpr ⟨h1,h2⟩];rfl
theorem b7V{hs:Hd}{es:List (List Edge)}(ok:hOk hs)(h1:1 <= hs.length)(h6:hs.length <= 6)(hl:es.length=hs.length)(he:∀ (f:Nat) (x:Nat×Nat) (l:List Edge),hs[f]?=some x->es[f]?=some l->l.length <= 100/\∀ e ∈ l,a8j hs x e):WF (mkC hs es):=by
 have len:(mkC hs es).length=hs.length:=by unfold mkC;rw [List.length_map,List.length_zip,hl];omega
 refine ⟨by right,by right,fun f F hF=>?_⟩;obtain ⟨x,l,hx,hl',rfl⟩:=b2m hl hF;obtain ⟨o1,o2,o3,o4⟩:=ok x (List.mem_of_getElem? hx);obtain ⟨o5,o6⟩:=he f x l hx hl';refine ⟨o1,o2,o3,o4,o5,fun e hm=>?_⟩;obtain ⟨p1,p2,p3,p4,p5⟩:=o6 e hm;refine ⟨p1,p2,p3,p4,?_⟩;obtain ⟨a,b,c,k⟩:=e
 cases k with
 |step t=>exact p5
 |call g i b o =>
  obtain ⟨y,hy,t1,t2,t3⟩:=p5;have hg:g < es.length:=by rw [hl];exact (List.getElem?_eq_some_iff.mp hy).1
  exact ⟨⟨y.1,y.2,es[g]⟩,a7m hy (List.getElem?_eq_getElem hg),t1,t2,t3⟩
theorem b4y{hs:Hd}{es:List (List Edge)}(hl:es.length=hs.length):(mkC hs es).length=hs.length:=by unfold mkC;rw [List.length_map,List.length_zip,hl];omega
def esOk(hs:Hd)(es:List (List Edge))(n:Nat):Prop:=es.length=hs.length/\∀ (f:Nat) (x:Nat×Nat) (l:List Edge),hs[f]?=some x->es[f]?=some l->l.length <= n/\∀ e ∈ l,a8j hs x e
theorem esOk.nil(hs:Hd):esOk hs (List.replicate hs.length []) 0:=⟨by simp,fun f x l hf hl2=>by
 have:=List.eq_of_mem_replicate (List.mem_of_getElem? hl2)
 subst this;exact ⟨Nat.zero_le _,fun e he=>nomatch he⟩⟩
theorem esOk.put{hs:Hd}{es:List (List Edge)}{n f:Nat}{x:Nat×Nat}{l:List Edge}{E:Edge}(h:esOk hs es n)(hx:hs[f]?=some x)(hl2:es[f]?=some l)(hE:a8j hs x E):esOk hs (es.set f (l ++ [E])) (n + 1):=by
 obtain ⟨hel,hes⟩:=h;have fl:=(List.getElem?_eq_some_iff.mp hl2).1;refine ⟨by rw [List.length_set];exact hel,fun f' x' l' hx' hl'=>?_⟩;obtain ⟨q1,q2⟩:=hes f x l hx hl2
 by_cases z:f=f'
 ·subst z;rw [hx] at hx';cases hx'
  rw [List.getElem?_set_self fl] at hl'
  cases hl'
  refine ⟨by rw [List.length_append];exact Nat.succ_le_succ q1,fun e9 he9=>?_⟩
  rcases List.mem_append.mp he9 with w | w
  ·exact q2 e9 w
  ·rw [List.mem_singleton.mp w];exact hE
 ·rw [List.getElem?_set_ne z] at hl';obtain ⟨u1,u2⟩:=hes f' x' l' hx' hl';exact ⟨Nat.le_succ_of_le u1,u2⟩
theorem esOk.wf{hs:Hd}{es:List (List Edge)}{n:Nat}(h:esOk hs es n)(ok:hOk hs)(h1:1 <= hs.length)(h6:hs.length <= 6)(hn:n <= 100):WF (mkC hs es):=b7V ok h1 h6 h.1 fun f x l a b=>⟨Nat.le_trans (h.2 f x l a b).1 hn,(h.2 f x l a b).2⟩
theorem a3t{h h':Hh}{hs:Hd}{es:List (List Edge)}{n k:Nat}(hel:es.length=hs.length)(hn:h.length <= n)(hk:hs.length=k)(tg:∀ (f:Nat) (l:List Edge),es[f]?=some l->h'[n + f]?=some (.lst (l.map eD))) :
  Vw h.length h' (.lst ((List.range k).map fun f=>.tup [nD (hs.getD f (0,0)).1,nD (hs.getD f (0,0)).2,.ref (n + f)])) (cD (mkC hs es)):=by
 have len:=b4y hel;refine .lst (.of_get (by rw [List.length_map,List.length_map,List.length_range,len,hk]) fun f x y hx hy=>?_);rw [List.getElem?_map] at hx hy
 have fl:f < k:=by
  rcases Nat.lt_or_ge f k with z | z
  ·exact z
  ·rw [List.getElem?_eq_none (by rw [List.length_range];exact z)] at hx;cases hx
 rw [List.getElem?_range fl] at hx;cases hx;obtain ⟨xx,hxx⟩:∃ x,hs[f]?=some x:=⟨_,List.getElem?_eq_getElem (by right)⟩
 obtain ⟨l,hl2⟩:∃ l,es[f]?=some l:=⟨_,List.getElem?_eq_getElem (by right)⟩
 rw [a7m hxx hl2] at hy;cases hy;dsimp only;rw [List.getD_eq_getElem?_getD,hxx];exact .tup (.cons (.nr rfl) (.cons (.nr rfl) (.cons (.opn (by right) (tg f l hl2) (.of (F2 a4i l))) .nil)))
theorem Z9{n k f:Nat}(fl:f < k):atI ((List.range k).map (fun j=>D.ref (n + j))) (f:Int)=some (.ref (n + f)):=by rw [atN,List.getElem?_map,List.getElem?_range fl];rfl
theorem a2i{g g2:Hh}{i:Nat}{o:O}(e:g[i]?=some o):(g ++ g2)[i]?=some o:=by rw [List.getElem?_append_left (List.getElem?_eq_some_iff.mp e).1];exact e
def a4w:DSp:=fun ds h Q=>∃ (ns:List Int),ds=[.scr (ns.map .int)]/\ns.length <= 63/\∀ C,WF C->Q (cD C) h
theorem b1O:∀ ds h Q,a4w ds h Q->i7 9 a9N ds h (Dr h Q):=by
 rintro ds h Q ⟨ns,rfl,hl,q⟩
 delta i7 a9N;simp only [VS];left;simp only [VV];refine ⟨ns,1,rfl,hl,by decide,fun c1=>?_⟩;subst hN;left;simp only [VV];subst hN;left;refine w9 fun T B hT hB=>?_;simp only [VV];refine ⟨ns,0,rfl,hl,by decide,fun r=>?_⟩;simp only [VV];obtain ⟨n,hn,n1,n6⟩:=X7 (r / 2) 6 (by decide);rw [show (1:Int) + r / 2 % 6=(n:Int) from hn,Int.toNat_natCast,o8];rw [List.append_assoc,List.length_append];refine ⟨⟨by decide,by decide⟩,by decide,⟨by right,by right⟩,?_⟩;have g0:∀ a b:O,(h ++ [a,b])[h.length]?=some a:=fun a b=>by rw [List.getElem?_append_right (Nat.le_refl _),Nat.sub_self];rfl
 have g1:∀ a b:O,(h ++ [a,b])[h.length + 1]?=some b:=fun a b=>by rw [List.getElem?_append_right (by right),show h.length + 1 - h.length=1 by right];rfl
 have s0:∀ a b c:O,(h ++ [a,b]).set h.length c=h ++ [c,b]:=fun a b c=>by rw [List.set_append_right _ _ (Nat.le_refl _),Nat.sub_self];rfl
 have s1:∀ a b c:O,(h ++ [a,b]).set (h.length + 1) c=h ++ [a,c]:=fun a b c=>by rw [List.set_append_right _ _ (by right),show h.length + 1 - h.length=1 by right];rfl
 refine m8 (fun p δ h'=>∃ (hs:Hd) (c:Int) (x3 x4:Option D),δ=[some (.scr (ns.map .int)),some (.ref h.length),some (.ref (h.length + 1)),x3,x4,none,none,none,none]/\h'=h ++ [.lst [.int c],.lst (hs.map szD)]/\hs.length=p.length/\hOk hs) ⟨[],c1,none,none,rfl,rfl,rfl,fun _ h=>nomatch h⟩ (fun _ _ _ _=>Src.ok_nil) ?_ ?_
 ·rintro p y r' δ h' N1 e ⟨hs,c,x3,x4,rfl,rfl,hlen,ok⟩ hN1
  obtain ⟨rfl,hy⟩:=z5 e;subst hT;subst hB;refine B0 ?_;left;simp only [VV];refine ⟨h.length,_,10,rfl,g0 _ _,by decide,by decide,fun c2 a ha=>?_⟩;simp only [s0,VV];subst hN;simp only [g1,List.length_map,VV];refine ⟨h.length,_,6,rfl,g0 _ _,by decide,by decide,fun c3 b hb=>?_⟩;rw [s0];simp only [g1,s1,List.length_map,VV];refine ⟨by right,hN1 _ _ ⟨hs ++ [(1 + a,1 + b)],c3,_,_,rfl,?_,by rw [List.length_append,List.length_append,hlen];rfl,fun x hx=>?_⟩⟩
  ·rw [List.map_append];rfl
  ·rcases List.mem_append.mp hx with z | z
   ·exact ok x z
   ·rw [List.mem_singleton.mp z];exact ⟨by right,by right,by right,by right⟩
 ·rintro δ h' ⟨hs,c,x3,x4,rfl,rfl,hlen,ok⟩
  rw [List.length_range] at hlen;clear hT hB;subst hN;left;have src:=L4 (g1 (.lst [.int c]) (.lst (hs.map szD)));simp only [src,VV];refine ⟨by rw [List.length_map];omega,?_⟩;refine C8 (g:=szD) (fun p acc δ h'=>(∃ o,δ=[o])/\acc=(List.range p.length).map (fun j=>.ref ((h ++ [O.lst [.int c],.lst (hs.map szD)]).length + j))/\h'=h ++ [.lst [.int c],.lst (hs.map szD)] ++ (List.replicate p.length ([]:List Edge)).map eO) ⟨⟨none,rfl⟩,rfl,by simp⟩ ?_ ?_ ?_
  ·rintro p acc δ h' ⟨_,_,rfl⟩ z hz
   rw [List.mem_singleton.mp hz];exact a2i (g1 _ _)
  ·rintro p y r' acc δ h' N1 e ⟨⟨o,rfl⟩,rfl,rfl⟩ hN1
   simp only [VV];refine hN1 _ _ _ ⟨⟨_,rfl⟩,?_,?_⟩
   ·rw [show (p ++ [y]).length=p.length + 1 by simp,List.range_succ,List.map_append]
    simp;omega
   ·rw [show (p ++ [y]).length=p.length + 1 by simp,List.replicate_succ',List.map_append]
    simp [eO]
  ·rintro acc δ h' ⟨⟨o,rfl⟩,rfl,rfl⟩
   have gg:∀ es:List (List Edge),(h ++ [O.lst [.int c],.lst (hs.map szD)] ++ es.map eO)[h.length + 1]?=some (.lst (hs.map szD)):=fun es=>a2i (g1 _ _);have gl:(h ++ [O.lst [.int c],.lst (hs.map szD)]).length=h.length + 2:=by rw [List.length_append];rfl
   obtain ⟨hgw,ehg⟩:∃ w,h ++ [O.lst [.int c],.lst (hs.map szD)]=h ++ w:=⟨_,rfl⟩
   generalize h ++ [O.lst [.int c],.lst (hs.map szD)]=hg at *;subst hN;left;simp only [L4 (gg _),VV];refine ⟨by rw [List.length_map];omega,?_⟩;refine a0e (fun x=>nD x.2) (fun z hz=>by rw [List.mem_singleton.mp hz];exact gg _) none (fun x hx K k=>?_) ?_
   ·simp only [szD,VV];exact k
   ·refine ⟨_,hs.map fun x=>(x.2:Int),rfl,by rw [List.map_map];rfl,fun e0=>by rw [List.map_eq_nil_iff.mp e0] at hlen;exact absurd hlen (by simp;omega),fun m hm _=>?_⟩;obtain ⟨x,hx,rfl⟩:=List.mem_map.mp hm;obtain ⟨o1,o2,o3,o4⟩:=ok x hx
    obtain ⟨mn,em,hmn⟩:∃ mn:Nat,atI [D.int 0,D.int 24,D.int 24,D.int 14,D.int 6,D.int 2,D.int 1] (x.2:Int)=some (nD mn)/\mn <= 24:=by
     generalize x.2=v at o3 o4
     obtain rfl | rfl | rfl | rfl | rfl | rfl:v=1\/v=2\/v=3\/v=4\/v=5\/v=6:=by right
     ·exact ⟨24,rfl,by decide⟩
     ·exact ⟨24,rfl,by decide⟩
     ·exact ⟨14,rfl,by decide⟩
     ·exact ⟨6,rfl,by decide⟩
     ·exact ⟨2,rfl,by decide⟩
     ·exact ⟨1,rfl,by decide⟩
    rw [em];clear em hm hx o1 o2 o3 o4;subst hN;left;obtain ⟨ms,hms,hml⟩:=a7M ns (some 6) (some (6 + (mn:Int)));refine w9 fun T B hT hB=>?_;simp only [hms,VV];refine m8 (fun p δ h'=>∃ (es:List (List Edge)) (x3 x7 x8:Option D),δ=[some (.scr (ns.map .int)),some (.ref h.length),some (.ref (h.length + 1)),x3,x4,some (.lst ((List.range hs.length).map (fun j=>.ref (hg.length + j)))),some (nD mn),x7,x8]/\h'=hg ++ es.map eO/\esOk hs es p.length) ⟨List.replicate hs.length [],_,_,_,rfl,rfl,esOk.nil hs⟩ (fun _ _ _ _=>Src.ok_nil) ?_ ?_
    ·rintro p y r' δ h' N1 e ⟨es,x3,x7,x8,rfl,rfl,hes⟩ hN1
     subst hT;subst hB;refine B0 ?_;left;have hel:=hes.1;simp only [VV];refine ⟨y,.ref (h.length + 1),hs,rfl,l7 (gg es),ok,by right,by right,fun f x E hx hE=>?_⟩;have fl:f < hs.length:=(List.getElem?_eq_some_iff.mp hx).1;obtain ⟨l,hl2⟩:∃ l,es[f]?=some l:=⟨_,List.getElem?_eq_getElem (by right)⟩
     have tg:(hg ++ es.map eO)[hg.length + f]?=some (.lst (l.map eD)):=a2c hl2;simp only [VV];subst hN;simp only [Z9 fl,tg,List.length_map,VV];have q1:=(hes.2 f x l hx hl2).1;have pl:p.length < ms.length:=by rw [e];simp
     have se:(hg ++ es.map eO).set (hg.length + f) (.lst (l.map eD ++ [eD E]))=hg ++ (es.set f (l ++ [E])).map eO:=by
      rw [<- b0y];unfold eO;rw [List.map_append];rfl
     rw [se];exact ⟨by right,by right,hN1 _ _ ⟨es.set f (l ++ [E]),_,_,_,rfl,rfl,by rw [List.length_append];exact hes.put hx hl2 hE⟩⟩
    ·rintro δ h' ⟨es,x3,x7,x8,rfl,rfl,hes⟩
     clear hT hB;subst hN;have hel:=hes.1;simp only [y0 (l7 (gg es)),List.length_map,VV];have h3:hs.length <= 6:=by right
     refine ⟨⟨by right,by right⟩,by rw [s9,Int.toNat_natCast];omega,?_⟩;rw [o8,Int.toNat_natCast];refine a0e (fun f=>.tup [nD (hs.getD f (0,0)).1,nD (hs.getD f (0,0)).2,.ref (hg.length + f)]) Src.ok_nil none (fun f hf K k=>?_) ?_
     ·have fl:f < hs.length:=List.mem_range.mp hf
      have ixh:ixD (hg ++ es.map eO) (.ref (h.length + 1)) (nD f)=some (szD (hs.getD f (0,0))):=by
       rw [A6 (l7 (gg es)),atN,List.getElem?_map,List.getD_eq_getElem?_getD,List.getElem?_eq_getElem fl];rfl
      rw [Int.zero_add];simp only [Z9 fl,ixh,szD,VV];exact k
     ·exact ⟨h,hgw ++ es.map eO,cD (mkC hs es),by rw [ehg,List.append_assoc],rfl,fun _ _ e=>.inl e,a3t hel (by right) rfl fun f l hl2=>a2c hl2,q _ (hes.wf ok (by right) (by right) (by right))⟩
theorem b5P{f:Addr}{fd:FuncData}(F:Fun K "_law_free_chart" "_law_free_chart" a9l f fd)(T:Txt P w K mg)(C_q15:Cal P w K mg base 1 "_law_cell" ["_law_script","_law_k"] (spD K 2 J5))(C_q18:Cal P w K mg base 1 "_law_digit" ["_law_left","_law_many"] (spD K 2 J0))(C_q22:Cal P w K mg base 3 "_law_free_edge" ["_law_cell_here","_law_sizes_here"] (spD K 2 a4T)):l9 P w K mg base CX0 4 f fd ["_law_script"] (spD K 1 a4w) :=
 a0F (k:=3) (b:=a9N) F sc_q21 (fun cdv A outer s H E hr=>by
  refine b9 ?_ ?_
  ·refine i5 (i:=1) ?_ ?_ ?_ ?_
   ·exact sc_q21.nd
   ·exact rfl
   ·exact Or.inl rfl
   exact Z2 (r9 (b4 (f8 C_q15 (hr.mono (by decide)) rfl (b4 (sv 0) (b4 b7 b8))) b8))
  refine b9 ?_ ?_
  ·exact i5 (i:=2) sc_q21.nd rfl (Or.inr rfl) (Z2 (r9 b8))
  refine b9 ?_ ?_
  ·refine A5 PassesOwn.never rfl ?_ (i6 (i:=3) sc_q21.nd rfl (Or.inl rfl)) ?_
   ·exact t8 rfl T.b_range (b4 (d8 j1 b7 (d8 m4 (d8 u3 (f8 C_q15 (hr.mono (by decide)) rfl (b4 (sv 0) (b4 b7 b8))) b7) b7)) b8)
   refine b9 ?_ ?_
   ·refine i5 (i:=4) sc_q21.nd rfl (Or.inl rfl) ?_;exact d8 j1 b7 (f8 C_q18 (hr.mono (by decide)) rfl (b4 (sv 1) (b4 b7 b8)))
   refine c8 ?_;refine t9 ?_;exact v9 (sv 2) (b4 (j4 (b4 (sv 4) (b4 (d8 j1 b7 (f8 C_q18 (hr.mono (by decide)) rfl (b4 (sv 1) (b4 b7 b8)))) b8))) b8)
  refine b9 ?_ ?_
  ·refine i5 (i:=5) ?_ ?_ ?_ ?_
   ·exact sc_q21.nd
   ·exact rfl
   ·exact Or.inr rfl
   refine D4 ?_;exact z8 rfl (N':= ["_law_size"]) (js:=[none]) ⟨rfl,by decide +kernel,rfl,rfl,rfl⟩ (y7 (sv 2)) (fun s0 H0 fp=>⟨(i6 (i:=0) (show (["_law_size"]:List Str).Nodup by decide +kernel) rfl (Or.inl rfl)),G8,(Z2 (r9 b8))⟩)
  refine b9 ?_ ?_
  ·refine i5 (i:=6) ?_ ?_ ?_ ?_
   ·exact sc_q21.nd
   ·exact rfl
   ·exact Or.inl rfl
   exact c5 c4 (D4 (r9 (b4 b7 (b4 b7 (b4 b7 (b4 b7 (b4 b7 (b4 b7 (b4 b7 b8))))))))) (k7 (a5e rfl) rfl T.b_max PyProof.Rows.boot_max (b4 (D4 (z8 rfl (N':= ["_law_size"]) (js:=[none]) ⟨rfl,by decide +kernel,rfl,rfl,rfl⟩ (y7 (sv 2)) (fun s0 H0 fp=>⟨(i6 (i:=0) (show (["_law_size"]:List Str).Nodup by decide +kernel) rfl (Or.inl rfl)),G8,(c5 c4 (sv 0) b7)⟩))) b8))
  refine b9 ?_ ?_
  ·refine A5 PassesOwn.never rfl (y7 (a3h (sv 0) (O9 b7) (O9 (d8 j1 b7 (sv 6))))) (i6 (i:=7) sc_q21.nd rfl (Or.inl rfl)) ?_;refine b9 ?_ ?_
   ·exact N0 (f8 C_q22 (hr.mono (by decide)) rfl (b4 (sv 7) (b4 (sv 2) b8))) (a5g rfl (p7 (i6 (i:=3) sc_q21.nd rfl (Or.inl rfl)) (p7 (i6 (i:=8) sc_q21.nd rfl (Or.inl rfl)) E4)))
   exact c8 (t9 (v9 (c5 c4 (sv 5) (sv 3)) (b4 (sv 8) b8)))
  refine c8 ?_;refine j2 ?_;refine D4 ?_;exact z8 rfl (N':= ["_law_f","_law_sizes_here","_law_functions"]) (js:=[none,some 2,some 5]) ⟨rfl,by decide +kernel,rfl,rfl,rfl⟩ (t8 rfl T.b_range (b4 (k7 y6 rfl T.b_len PySem.boot_len (b4 (sv 2) b8)) b8)) (fun s0 H0 fp=>⟨(i6 (i:=0) (show (["_law_f","_law_sizes_here","_law_functions"]:List Str).Nodup by decide +kernel) rfl (Or.inl rfl)),G8,(j4 (b4 (c5 c4 (c5 c4 (sv 1) (sv 0)) b7) (b4 (c5 c4 (c5 c4 (sv 1) (sv 0)) b7) (b4 (c5 c4 (sv 2) (sv 0)) b8))))⟩)) b1O
def a8B:DS:=(f7 (v7 (dTr (j8 a4V (b5 (b6 0) d7))) (m5 (j8 a4w (b5 (b6 0) d7))) o0)
  (f7 (j0 (j8 a5u (b5 (b6 0) d7)) (c9 1))
  (f7 (j0 (dV (D3 [none] (C0 (b6 1)) (c9 0) L8 (dTk d7))) (c9 2))
  (f7 (j0 (dCB a7g (b5 (dV (D3 [none] (C0 (b6 1)) (c9 0) L8 (dOp pIx (b6 0) (dC (.int 1))))) d7)) (c9 3))
  (f7 (j0 (dOp pIx (dV (b5 (dC (.int 14)) (b5 (dC (.int 24)) (b5 (dC (.int 8)) d7)))) (dOp m9 (dCB a9B (b5 (dOp Y8 (b6 3) (dC (.int 3))) d7)) (dOp W8 (dC (.int 2)) (dCB a9B (b5 (dOp pGt (b6 3) (dC (.int 3))) d7))))) (c9 4))
  (f7 (E2 (v6 (b5 (dC (.int 6)) (b5 (dCB b7C (b5 (dC (.int 14)) (b5 (dCB b4A (b5 (dOp m9 (dC (.int 6)) (b6 4)) (b5 (dCB H9 (b5 (b6 0) d7)) d7))) d7))) d7))) (c9 5) (f7 (j0 (j8 a5k (b5 (j8 J5 (b5 (b6 0) (b5 (b6 5) d7))) (b5 (b6 5) (b5 (b6 1) (b5 (dOp pGt (b6 3) (dC (.int 3))) d7))))) (a5H 2 (u8 (c9 6) (u8 (c9 7) M6))))
  (y9 (B7 (dOp pIx (b6 2) (b6 6)) (b5 (b6 7) d7)))))
  (m5 (dV (D3 [none,some 1,some 2] (v6 (b5 (dCB H9 (b5 (b6 1) d7)) d7)) (c9 0) L8 (u0 (b5 (dOp pIx (dOp pIx (b6 1) (b6 0)) (dC (.int 0))) (b5 (dOp pIx (dOp pIx (b6 1) (b6 0)) (dC (.int 1))) (b5 (dOp pIx (b6 2) (b6 0)) d7)))))))))))))
def a5I:DSp:=fun ds h Q=>∃ (ns:List Int),ds=[.scr (ns.map .int)]/\ns.length <= 63/\∀ C,WF C->Q (cD C) h
theorem b3j:∀ ds h Q,a5I ds h Q->i7 8 a8B ds h (Dr h Q):=by
 rintro ds h Q ⟨ns,rfl,hl,q⟩
 delta i7 a8B;simp only [VS];left
 (try dsimp only);refine q8 fun A1 B1 hA hB=>?_;simp only [VV];refine ⟨ns,rfl,hl,fun b=>?_⟩;simp only [VV];refine M8 (fun _=>?_) (fun _=>?_)
 ·subst hA;simp only [VV];refine ⟨ns,rfl,hl,fun C wf=>?_⟩;exact Dr.same (b5A C) (q C wf)
 ·subst hB;simp only [VV];subst hN;left;simp only [VV];refine ⟨ns,rfl,hl,fun hs h1 h6 ok=>?_⟩;subst hN;left;simp only [VV];refine ⟨by rw [List.length_map];omega,?_⟩;refine C8 (g:=szD) (fun p acc δ h'=>(∃ o,δ=[o])/\acc=(List.range p.length).map (fun j=>.ref (h.length + j))/\h'=h ++ (List.replicate p.length ([]:List Edge)).map eO) ⟨⟨none,rfl⟩,rfl,by simp⟩ (fun _ _ _ _ _=>Src.ok_nil) ?_ ?_
  ·rintro p y r' acc δ h' N1 e ⟨⟨o,rfl⟩,rfl,rfl⟩ hN1
   simp only [VV];refine hN1 _ _ _ ⟨⟨_,rfl⟩,?_,?_⟩
   ·rw [show (p ++ [y]).length=p.length + 1 by simp,List.range_succ,List.map_append]
    simp
   ·rw [show (p ++ [y]).length=p.length + 1 by simp,List.replicate_succ',List.map_append]
    simp [eO]
  ·rintro acc δ h' ⟨⟨o,rfl⟩,rfl,rfl⟩
   subst hN;left;simp only [VV];refine ⟨by rw [List.length_map];omega,?_⟩;refine a0e (fun x=>nD x.2) Src.ok_nil none (fun x hx K k=>?_) ?_
   ·simp only [szD,VV];exact k
   ·refine ⟨_,hs.map fun x=>(x.2:Int),rfl,by rw [List.map_map];rfl,fun e0=>by rw [List.map_eq_nil_iff.mp e0] at h1;exact absurd h1 (by decide),fun m hm _=>?_⟩;obtain ⟨x,hx,rfl⟩:=List.mem_map.mp hm;obtain ⟨o1,o2,o3,o4⟩:=ok x hx;generalize x.2=v at o3 o4;subst hN;left;simp only [VV]
    obtain ⟨mn,em,hmn⟩:∃ mn:Nat,atI [D.int 14,D.int 24,D.int 8] ((if decide ((v:Int) < 3)=true then 1 else 0:Int) + 2 * if decide (3 < (v:Int))=true then 1 else 0)=some (nD mn)/\mn <= 24:=by
     obtain rfl | rfl | rfl | rfl | rfl | rfl:v=1\/v=2\/v=3\/v=4\/v=5\/v=6:=by right
     ·exact ⟨24,rfl,by decide⟩
     ·exact ⟨24,rfl,by decide⟩
     ·exact ⟨14,rfl,by decide⟩
     ·exact ⟨8,rfl,by decide⟩
     ·exact ⟨8,rfl,by decide⟩
     ·exact ⟨8,rfl,by decide⟩
    rw [em];refine ⟨a6b (by decide),?_⟩;clear em hm hx o1 o2;subst hN;left;refine w9 fun T B hT hB=>?_;simp only [VV]
    obtain ⟨mx,ex,hx⟩:∃ mx:Nat,(if (if ((ns.map D.int).length:Int) < 6 + (mn:Int) then ((ns.map D.int).length:Int) else 6 + (mn:Int)) > 14 then (if ((ns.map D.int).length:Int) < 6 + (mn:Int) then ((ns.map D.int).length:Int) else 6 + (mn:Int)) else 14)=(mx:Int)/\mx <= 30:=by
     have z:∃ a:Nat,(if ((ns.map D.int).length:Int) < 6 + (mn:Int) then ((ns.map D.int).length:Int) else 6 + (mn:Int))=(a:Int)/\a <= 30:=by
      split
      ·exact ⟨_,rfl,by right⟩
      ·exact ⟨6 + mn,rfl,by right⟩
     obtain ⟨a,ea,ha⟩:=z;rw [ea];split
     ·exact ⟨a,rfl,ha⟩
     ·exact ⟨14,rfl,by decide⟩
    rw [ex];refine ⟨⟨by decide,by decide,by right,by right⟩,?_⟩;obtain ⟨m2,e2,h2⟩:∃ m2:Nat,((mx:Int) - 6).toNat=m2/\m2 <= 30:=⟨_,rfl,by right⟩
    rw [e2,o8];refine m8 (fun p δ h'=>∃ (es:List (List Edge)) (x5 x6 x7:Option D),δ=[some (.scr (ns.map .int)),some (.lst (hs.map szD)),some (.lst ((List.range hs.length).map (fun j=>.ref (h.length + j)))),some (nD v),some (nD mn),x5,x6,x7]/\h'=h ++ es.map eO/\esOk hs es p.length) ⟨List.replicate hs.length [],_,_,_,rfl,rfl,esOk.nil hs⟩ (fun _ _ _ _=>Src.ok_nil) ?_ ?_
    ·rintro p y r' δ h' N1 e ⟨es,x5,x6,x7,rfl,rfl,hes⟩ hN1
     obtain ⟨rfl,hy⟩:=z5 e;subst hT;subst hB;refine B0 ?_;left;have hel:=hes.1;simp only [VV];refine ⟨ns,6 + p.length,rfl,hl,by right,fun c=>?_⟩;simp only [VV];refine ⟨c,6 + p.length,.lst (hs.map szD),hs,_,rfl,rfl,ok,h1,h6,by right,fun f x E hx hE=>?_⟩;have fl:f < hs.length:=(List.getElem?_eq_some_iff.mp hx).1;obtain ⟨l,hl2⟩:∃ l,es[f]?=some l:=⟨_,List.getElem?_eq_getElem (by right)⟩
     have tg:(h ++ es.map eO)[h.length + f]?=some (.lst (l.map eD)):=a2c hl2;simp only [VV];subst hN;simp only [Z9 fl,tg,List.length_map,VV];have q1:=(hes.2 f x l hx hl2).1
     have se:(h ++ es.map eO).set (h.length + f) (.lst (l.map eD ++ [eD E]))=h ++ (es.set f (l ++ [E])).map eO:=by
      rw [<- b0y];unfold eO;rw [List.map_append];rfl
     rw [se];exact ⟨by right,by right,hN1 _ _ ⟨es.set f (l ++ [E]),_,_,_,rfl,rfl,by rw [List.length_append];exact hes.put hx hl2 hE⟩⟩
    ·rintro δ h' ⟨es,x5,x6,x7,rfl,rfl,hes⟩
     rw [List.length_range] at hes;clear hT hB;subst hN;have hel:=hes.1;simp only [VV];rw [List.length_map];refine ⟨⟨by right,by right⟩,by rw [s9,Int.toNat_natCast];omega,?_⟩;rw [o8,Int.toNat_natCast];refine a0e (fun f=>.tup [nD (hs.getD f (0,0)).1,nD (hs.getD f (0,0)).2,.ref (h.length + f)]) Src.ok_nil none (fun f hf K k=>?_) ?_
     ·have fl:f < hs.length:=List.mem_range.mp hf
      have ixh:atI (hs.map szD) (f:Int)=some (szD (hs.getD f (0,0))):=by
       rw [atN,List.getElem?_map,List.getD_eq_getElem?_getD,List.getElem?_eq_getElem fl];rfl
      rw [Int.zero_add];simp only [Z9 fl,ixh,szD,VV];exact k
     ·exact ⟨h,es.map eO,cD (mkC hs es),rfl,rfl,fun _ _ e=>.inl e,a3t hel (Nat.le_refl _) rfl fun f l hl2=>a2c hl2,q _ (hes.wf ok h1 h6 (by right))⟩
theorem b8Q{f:Addr}{fd:FuncData}(F:Fun K "_law_chart" "_law_chart" b0w f fd)(T:Txt P w K mg)(C_q14:Cal P w K mg base 2 "_law_by_digits" ["_law_script"] (spD K 1 a4V))(C_q21:Cal P w K mg base 4 "_law_free_chart" ["_law_script"] (spD K 1 a4w))(C_q27:Cal P w K mg base 2 "_law_sizes" ["_law_script"] (spD K 1 a5u))(C_q15:Cal P w K mg base 1 "_law_cell" ["_law_script","_law_k"] (spD K 2 J5))(C_q19:Cal P w K mg base 3 "_law_edge" ["_law_cell_here","_law_k","_law_sizes_here","_law_thin"] (spD K 4 a5k)):l9 P w K mg base CX0 5 f fd ["_law_script"] (spD K 1 a5I) :=
 a0F (k:=4) (b:=a8B) F sc_q16 (fun cdv A outer s H E hr=>by
  refine b9 ?_ ?_
  ·refine v8 (A8 (f8 C_q14 (hr.mono (by decide)) rfl (b4 (sv 0) b8))) ?_ j9;exact c8 (j2 (f8 C_q21 (hr.mono (by decide)) rfl (b4 (sv 0) b8)))
  refine b9 ?_ ?_
  ·exact i5 (i:=1) sc_q16.nd rfl (Or.inr rfl) (f8 C_q27 (hr.mono (by decide)) rfl (b4 (sv 0) b8))
  refine b9 ?_ ?_
  ·refine i5 (i:=2) ?_ ?_ ?_ ?_
   ·exact sc_q16.nd
   ·exact rfl
   ·exact Or.inr rfl
   refine D4 ?_;exact z8 rfl (N':= ["_law_size"]) (js:=[none]) ⟨rfl,by decide +kernel,rfl,rfl,rfl⟩ (y7 (sv 1)) (fun s0 H0 fp=>⟨(i6 (i:=0) (show (["_law_size"]:List Str).Nodup by decide +kernel) rfl (Or.inl rfl)),G8,(Z2 (r9 b8))⟩)
  refine b9 ?_ ?_
  ·refine i5 (i:=3) sc_q16.nd rfl (Or.inl rfl) ?_;exact k7 (a5e rfl) rfl T.b_max PyProof.Rows.boot_max (b4 (D4 (z8 rfl (N':= ["_law_size"]) (js:=[none]) ⟨rfl,by decide +kernel,rfl,rfl,rfl⟩ (y7 (sv 1)) (fun s0 H0 fp=>⟨(i6 (i:=0) (show (["_law_size"]:List Str).Nodup by decide +kernel) rfl (Or.inl rfl)),G8,(c5 c4 (sv 0) b7)⟩))) b8)
  refine b9 ?_ ?_
  ·refine i5 (i:=4) ?_ ?_ ?_ ?_
   ·exact sc_q16.nd
   ·exact rfl
   ·exact Or.inl rfl
   exact c5 c4 (D4 (r9 (b4 b7 (b4 b7 (b4 b7 b8))))) (d8 j1 (J7 a3T rfl T.b_int PyProof.Rows.boot_int (b4 (D6 F0 (sv 3) b7) b8)) (d8 C5 b7 (J7 a3T rfl T.b_int PyProof.Rows.boot_int (b4 (D6 a0G (sv 3) b7) b8))))
  refine b9 ?_ ?_
  ·refine A5 PassesOwn.never rfl ?_ (i6 (i:=5) sc_q16.nd rfl (Or.inl rfl)) ?_
   ·exact a5Q rfl T.b_range (b4 b7 (b4 (k7 (b6m rfl) rfl T.b_max PyProof.Rows.boot_max (b4 b7 (b4 (k7 (b0z rfl) rfl T.b_min PyProof.Rows.boot_min (b4 (d8 j1 b7 (sv 4)) (b4 (k7 y6 rfl T.b_len PySem.boot_len (b4 (sv 0) b8)) b8))) b8))) b8))
   refine b9 ?_ ?_
   ·exact N0 (f8 C_q19 (hr.mono (by decide)) rfl (b4 (f8 C_q15 (hr.mono (by decide)) rfl (b4 (sv 0) (b4 (sv 5) b8))) (b4 (sv 5) (b4 (sv 1) (b4 (D6 a0G (sv 3) b7) b8))))) (a5g rfl (p7 (i6 (i:=6) sc_q16.nd rfl (Or.inl rfl)) (p7 (i6 (i:=7) sc_q16.nd rfl (Or.inl rfl)) E4)))
   exact c8 (t9 (v9 (c5 c4 (sv 2) (sv 6)) (b4 (sv 7) b8)))
  refine c8 ?_;refine j2 ?_;refine D4 ?_;exact z8 rfl (N':= ["_law_f","_law_sizes_here","_law_functions"]) (js:=[none,some 1,some 2]) ⟨rfl,by decide +kernel,rfl,rfl,rfl⟩ (t8 rfl T.b_range (b4 (k7 y6 rfl T.b_len PySem.boot_len (b4 (sv 1) b8)) b8)) (fun s0 H0 fp=>⟨(i6 (i:=0) (show (["_law_f","_law_sizes_here","_law_functions"]:List Str).Nodup by decide +kernel) rfl (Or.inl rfl)),G8,(j4 (b4 (c5 c4 (c5 c4 (sv 1) (sv 0)) b7) (b4 (c5 c4 (c5 c4 (sv 1) (sv 0)) b7) (b4 (c5 c4 (sv 2) (sv 0)) b8))))⟩)) b3j
def a7l:DS:=(m5 (dV (D3 [none] (C0 (b6 0)) (c9 0) L8 (u0 (b5 (dOp pIx (b6 0) (dC (.int 0))) (b5 (dOp pIx (b6 0) (dC (.int 1))) (b5 (dV (a4Y (b5 (dOp pIx (b6 0) (dC (.int 2))) d7))) d7)))))))
def a5o:DSp:=fun ds h Q=>∃ (C:d9),ds=[cD C]/\C.length <= 6/\(∀ F ∈ C,F.edges.length <= 100)/\Q (cD C) h
theorem b2x:∀ ds h Q,a5o ds h Q->i7 1 a7l ds h Q:=by
 rintro ds h Q ⟨C,rfl,c6,ce,q⟩
 delta i7 a7l;simp only [VS];simp only [cD,VV];refine ⟨by rw [List.length_map];omega,?_⟩;refine C8 (g:=fD) (fun p acc δ h'=>(∃ x,δ=[x])/\acc=p.map fD/\h'=h) ⟨⟨_,rfl⟩,rfl,rfl⟩ (fun _ _ _ _ _=>Src.ok_nil) ?_ ?_
 ·rintro p F r acc δ h' N e ⟨⟨x,rfl⟩,rfl,rfl⟩ hN
  simp only [fD,VV];exact hN _ _ _ ⟨⟨_,rfl⟩,by rw [List.map_append];rfl,rfl⟩
 ·rintro acc δ h' ⟨_,rfl,rfl⟩
  exact q
theorem b8d{f:Addr}{fd:FuncData}(F:Fun K "_law_copy" "_law_copy" a9I f fd)(T:Txt P w K mg):l9 P w K mg base CX0 1 f fd ["_law_chart_here"] (spD K 1 a5o) :=
 l8 (k:=0) (b:=a7l) F b8F (fun cdv A outer s H E hr=>by
  refine c8 ?_;refine j2 ?_;refine D4 ?_;exact z8 rfl (N':= ["_law_function"]) (js:=[none]) ⟨rfl,by decide +kernel,rfl,rfl,rfl⟩ (y7 (sv 0)) (fun s0 H0 fp=>⟨(i6 (i:=0) (show (["_law_function"]:List Str).Nodup by decide +kernel) rfl (Or.inl rfl)),G8,(j4 (b4 (c5 c4 (sv 0) b7) (b4 (c5 c4 (sv 0) b7) (b4 (D4 (b2I rfl T.b_list (b4 (c5 c4 (sv 0) b7) b8))) b8))))⟩)) b2x
def b0G:DS:=(f7 (j0 (dOp pIx (b6 3) (dC (.int 4))) (c9 4))
  (f7 (j0 (dTk d7) (c9 5))
  (f7 (E2 (C0 (j8 a0h (b5 (dOp pIx (dOp pIx (b6 3) (dC (.int 5))) (dOp pIx (b6 2) (dC (.int 3)))) d7))) (c9 6) (E2 (v6 (b5 (dOp pIx (dOp pIx (b6 0) (b6 4)) (dC (.int 1))) d7)) (c9 7) (f7 (j0 (u0 (b5 (b6 4) (b5 (b6 6) (b5 (dOp a0Y (dOp pIx (dOp pIx (b6 0) (b6 4)) (dC (.int 0))) (dC (.int 1))) (b5 (b6 7) d7))))) (c9 8))
  (v7 (n5 (dOp (a9y false) (b6 8) (b6 1))) (E2 (C0 (j8 a0h (b5 (dOp pIx (dOp pIx (b6 3) (dC (.int 6))) (b6 7)) d7))) (c9 9) (y9 (B7 (b6 5) (b5 (u0 (b5 (b6 9) (b5 (a0C (b6 1) (b6 8)) d7))) d7)))) o0))))
  (m5 (b6 5)))))
theorem tx(t:List Nat)(n mm x:Nat)(h':Hh)(ht:tOk t n mm)(hx:x < n):ixD h' (tD t) (nD x)=some (nD (t.getD x 0)):=by
 show atI (t.map nD) (x:Int)=_;rw [atN,List.getElem?_map,List.getD_eq_getElem?_getD,List.getElem?_eq_getElem (by rw [ht.1];exact hx)];rfl
theorem tl(t:List Nat)(n mm x:Nat)(ht:tOk t n mm)(h6:mm <= 6):t.getD x 0 < 64:=by
 rw [List.getD_eq_getElem?_getD]
 cases e:t[x]? with
 |none=>exact (by decide:0 < 64)
 |some y=>exact Nat.lt_of_lt_of_le (ht.2 y (List.mem_of_getElem? e)) (Nat.pow_le_pow_right (by decide) h6)
def Bh(C:d9)(m:Ct)(d g:Nat)(i b:List Nat)(x:Nat×Nat):Prop:=∃ G c y,C[g]?=some G/\c ∈ k8 (i.getD d 0)/\y < G.facts/\look m [g,c,G.places - 1,y]=some x.2/\x.1 ∈ k8 (b.getD y 0)
def a4W:DSp:=fun ds h Q=>∃ (C:d9) (j:Nat) (z:Option Obj) (m:Ct) (f a p d:Nat) (F:Fn) (E:Edge) (g:Nat) (i b o:List Nat),ds=[cD C,.ref j,tkD [f,a,p,d],eD E]/\WF C/\h[j]?=some (.dT z (tbD m))/\C[f]?=some F/\d < F.facts/\E ∈ F.edges/\E.k = .call g i b o/\∀ l:List (Nat×Nat),l.length <= 216->(∀ x ∈ l,Bh C m d g i b x)->Q (.lst (l.map szD)) h
theorem b1V:∀ ds h Q,a4W ds h Q->i7 10 b0G ds h (Dr h Q):=by
 rintro ds h Q ⟨C,j,z,m,f,a,p,d,F,⟨ep,eq,ec,ek⟩,g,i,b,o,rfl,wf,em,hF,hd,hE,rfl,q⟩
 obtain ⟨-,-,-,-,G,hG,ti,tb,to⟩:=(wf.fn f F hF).2.2.2.2.2 _ hE;obtain ⟨g1,g2,g3,g4,g5,-⟩:=wf.fn g G hG;obtain ⟨f1,f2,f3,f4,f5,-⟩:=wf.fn f F hF
 have eg:∀ h',ixD h' (cD C) (nD g)=some (fD G):=fun h'=>by
  show atI (C.map fD) (g:Int)=_;rw [atN,List.getElem?_map,hG];rfl
 have e3:∀ h',ixD h' (tkD [f,a,p,d]) (.int 3)=some (nD d):=fun _=>rfl;delta i7 b0G;simp only [VS];left;simp only [eD,VV];have e5:∀ h',ixD h' (D.tup [D.str (Str.ofString "call"),nD ep,nD eq,nD ec,nD g,tD i,tD b,tD o]) (.int 5)=some (tD i):=fun _=>rfl;have e6:∀ h',ixD h' (D.tup [D.str (Str.ofString "call"),nD ep,nD eq,nD ec,nD g,tD i,tD b,tD o]) (.int 6)=some (tD b):=fun _=>rfl;generalize D.tup [D.str (Str.ofString "call"),nD ep,nD eq,nD ec,nD g,tD i,tD b,tD o]=ed at e5 e6;generalize tkD [f,a,p,d]=kd at e3;subst hN;left;simp only [VV];subst hN;left;refine w9 fun T B hT hB=>?_;simp only [e3,e5,tx i _ _ d _ ti hd,VV];refine ⟨_,rfl,?_⟩;simp only [VV];rw [<- J4 (tl i _ _ d ti g4)];have fl:∀ n,n < 64->(k8 n).length <= 6:=fun n h=>J2 h;refine m8 (fun p δ h'=>(∃ x6 x7 x8 x9,δ=[some (cD C),some (.ref j),some kd,some ed,some (nD g),some (.ref h.length),x6,x7,x8,x9])/\∃ l:List (Nat×Nat),h'=h ++ [.lst (l.map szD)]/\l.length <= 36 * p.length/\∀ x ∈ l,Bh C m d g i b x) ⟨⟨_,_,_,_,rfl⟩,[],rfl,Nat.zero_le _,fun _ h=>nomatch h⟩ (fun _ _ _ _=>Src.ok_nil) ?_ ?_
 ·rintro p1 c r1 δ h' N1 ep1 ⟨⟨_,_,_,_,rfl⟩,l1,rfl,ll1,ok1⟩ hN1
  have hc:c ∈ k8 (i.getD d 0):=by rw [ep1];exact List.mem_append_right _ (List.mem_cons_self ..)
  have pl1:p1.length < 6:=by
   have:=fl _ (tl i _ _ d ti g4)
   rw [ep1,List.length_append,List.length_cons] at this;omega
  subst hT;subst hB;refine B0 ?_;refine w9 fun T B hT hB=>?_;simp only [eg,fD,VV];refine ⟨⟨by right,by right⟩,?_⟩;rw [o8,Int.toNat_natCast];refine m8 (fun p2 δ h'=>(∃ x7 x8 x9,δ=[some (cD C),some (.ref j),some kd,some ed,some (nD g),some (.ref h.length),some (nD c),x7,x8,x9])/\∃ l:List (Nat×Nat),h'=h ++ [.lst (l.map szD)]/\l.length <= 36 * p1.length + 6 * p2.length/\∀ x ∈ l,Bh C m d g i b x) ⟨⟨_,_,_,rfl⟩,l1,rfl,by simpa using ll1,ok1⟩ (fun _ _ _ _=>Src.ok_nil) ?_ ?_
  ·rintro p2 y r2 δ h' N2 ep2 ⟨⟨_,_,_,rfl⟩,l2,rfl,ll2,ok2⟩ hN2
   obtain ⟨rfl,hy⟩:=z5 ep2;subst hT;subst hB;refine B0 ?_;left;simp only [eg,fD,VV]
   have ek:D.tup [nD g,nD c,D.int ((G.places:Int) - 1),D.int (0 + (p2.length:Int))]=tkD [g,c,G.places - 1,p2.length]:=by
    rw [Int.zero_add,show (G.places:Int) - 1=((G.places - 1:Nat):Int) by right];rfl
   have e9:∀ l:List (Nat×Nat),(h ++ [O.lst (l.map szD)])[j]?=some (.dT z (tbD m)):=fun l=>a2i em;rw [ek,Int.zero_add];subst hN
   (try dsimp only);refine q8 fun A1 B1 hA hB=>?_;simp only [VV];refine G9 (e9 l2) ?_;have next:∀ (x9:Option D) (l3:List (Nat×Nat)),l3.length <= 36 * p1.length + 6 * p2.length + 6->(∀ x ∈ l3,Bh C m d g i b x)->N2 [some (cD C),some (.ref j),some kd,some ed,some (nD g),some (.ref h.length),some (nD c),some (nD p2.length),some (tkD [g,c,G.places - 1,p2.length]),x9] (h ++ [.lst (l3.map szD)]):=fun x9 l3 hl3 ok3=>hN2 _ _ ⟨⟨_,_,_,rfl⟩,l3,rfl,by rw [List.length_append,List.length_singleton];omega,ok3⟩
   cases el:look m [g,c,G.places - 1,p2.length] with
   |none =>
    subst hB;simp only [VV];exact next _ l2 (by right) ok2
   |some w =>
    refine M8 (fun _=>?_) (fun e=>Bool.noConfusion (show true=false from e));subst hA;refine w9 fun T B hT hB=>?_;simp only [e6,tx b _ _ p2.length _ tb hy,VV];refine ⟨_,rfl,?_⟩;simp only [VV];rw [<- J4 (tl b _ _ p2.length tb f4)];have fb:=fl _ (tl b _ _ p2.length tb f4);refine m8 (fun p3 δ h'=>(∃ x9,δ=[some (cD C),some (.ref j),some kd,some ed,some (nD g),some (.ref h.length),some (nD c),some (nD p2.length),some (tkD [g,c,G.places - 1,p2.length]),x9])/\∃ l:List (Nat×Nat),h'=h ++ [.lst (l.map szD)]/\l.length <= 36 * p1.length + 6 * p2.length + p3.length/\∀ x ∈ l,Bh C m d g i b x) ⟨⟨_,rfl⟩,l2,rfl,by simpa using ll2,ok2⟩ (fun _ _ _ _=>Src.ok_nil) ?_ ?_
    ·rintro p3 e r3 δ h' N3 ep3 ⟨⟨x9,rfl⟩,l3,rfl,ll3,ok3⟩ hN3
     have he:e ∈ k8 (b.getD p2.length 0):=by rw [ep3];exact List.mem_append_right _ (List.mem_cons_self ..)
     rw [ep3,List.length_append,List.length_cons] at fb;subst hT;subst hB;refine B0 ?_;have n9:=u9 h (.lst (l3.map szD));simp only [n9,VV];refine G9 (e9 l3) ?_;rw [el];refine ⟨_,rfl,?_⟩;simp only [n9,A9,List.length_map,VV];refine ⟨by right,hN3 _ _ ⟨⟨_,rfl⟩,l3 ++ [(e,w)],by rw [List.map_append];rfl,by rw [List.length_append,List.length_append];simp;omega,fun x hx=>?_⟩⟩
     rcases List.mem_append.mp hx with z | z
     ·exact ok3 x z
     ·rw [List.mem_singleton.mp z];exact ⟨G,c,p2.length,hG,hc,hy,el,he⟩
    ·rintro δ h' ⟨⟨x9,rfl⟩,l3,rfl,ll3,ok3⟩
     exact next _ l3 (by right) ok3
  ·rintro δ h' ⟨⟨_,_,_,rfl⟩,l2,rfl,ll2,ok2⟩
   rw [List.length_range] at ll2;exact hN1 _ _ ⟨⟨_,_,_,_,rfl⟩,l2,rfl,by rw [List.length_append,List.length_singleton];omega,ok2⟩
 ·rintro δ h' ⟨⟨_,_,_,_,rfl⟩,l,rfl,ll,ok⟩
  clear hT hB;subst hN;simp only [VV]
  have:=fl _ (tl i _ _ d ti g4)
  exact Dr.dropL (g1:=[]) (g2:=[]) (F2 (fun _=>rfl) l) rfl (q l (by right) ok)
theorem b6P{f:Addr}{fd:FuncData}(F:Fun K "_law_behind_call" "_law_behind_call" b0O f fd)(T:Txt P w K mg)(C_q20:Cal P w K mg base 1 "_law_facts" ["_law_mask_here"] (spD K 1 a0h)):l9 P w K mg base CX0 2 f fd ["_law_chart_here","_law_costs","_law_key","_law_edge_here"] (spD K 4 a4W) :=
 a0F (k:=1) (b:=b0G) F sc_q13 (fun cdv A outer s H E hr=>by
  refine b9 ?_ ?_
  ·exact i5 (i:=4) sc_q13.nd rfl (Or.inl rfl) (c5 c4 (sv 3) b7)
  refine b9 ?_ ?_
  ·exact i5 (i:=5) sc_q13.nd rfl (Or.inl rfl) (Z2 (r9 b8))
  refine b9 ?_ (c8 (j2 (sv 5)));refine A5 PassesOwn.never rfl ?_ (i6 (i:=6) sc_q13.nd rfl (Or.inl rfl)) ?_
  ·exact y7 (f8 C_q20 (hr.mono (by decide)) rfl (b4 (c5 c4 (c5 c4 (sv 3) b7) (c5 c4 (sv 2) b7)) b8))
  refine c8 ?_;refine A5 PassesOwn.never rfl ?_ (i6 (i:=7) sc_q13.nd rfl (Or.inl rfl)) ?_
  ·exact t8 rfl T.b_range (b4 (c5 c4 (c5 c4 (sv 0) (sv 4)) b7) b8)
  refine b9 ?_ ?_
  ·refine i5 (i:=8) ?_ ?_ ?_ ?_
   ·exact sc_q13.nd
   ·exact rfl
   ·exact Or.inl rfl
   refine j4 (n:=4) ?_;refine b4 (sv 4) ?_;refine b4 (sv 6) ?_;refine b4 ?_ (b4 (sv 7) b8);exact d8 L6 (c5 c4 (c5 c4 (sv 0) (sv 4)) b7) b7
  refine c8 ?_;refine v8 (i9 (b6q hr.units) (sv 8) (sv 1) rfl) ?_ j9;refine c8 ?_;refine A5 PassesOwn.never rfl ?_ (i6 (i:=9) sc_q13.nd rfl (Or.inl rfl)) ?_
  ·exact y7 (f8 C_q20 (hr.mono (by decide)) rfl (b4 (c5 c4 (c5 c4 (sv 3) b7) (sv 7)) b8))
  refine c8 ?_;refine t9 ?_;exact v9 (sv 5) (b4 (j4 (b4 (sv 9) (b4 (O7 hr.units (sv 1) (sv 8)) b8))) b8)) b1V
def a9p:DS:=(f7 (E2 (C0 (dOp pIx (dOp pIx (b6 0) (dOp pIx (b6 2) (dC (.int 0)))) (dC (.int 2)))) (c9 3) (v7 (n5 (dOp (pEq false) (dOp pIx (b6 3) (dC (.int 1))) (dOp pIx (b6 2) (dC (.int 2))))) (f7 (j0 (dV (D3 [none] (C0 (j8 a0h (b5 (dOp pIx (dOp pIx (b6 3) (dUn b9A (dC (.int 1)))) (dOp pIx (b6 2) (dC (.int 3)))) d7))) (c9 0) L8 (u0 (b5 (b6 0) (b5 (dC (.int 0)) d7))))) (c9 4))
  (f7 (v7 (n5 (dOp (pEq false) (dOp pIx (b6 3) (dC (.int 0))) (dC (.str "call")))) (j0 (dOp m9 (b6 4) (j8 a4W (b5 (b6 0) (b5 (b6 1) (b5 (b6 2) (b5 (b6 3) d7)))))) (c9 4)) o0)
  (E2 (C0 (b6 4)) (a2f 2 (u8 (c9 5) (u8 (c9 6) M6))) (f7 (j0 (u0 (b5 (dOp pIx (b6 2) (dC (.int 0))) (b5 (dOp pIx (b6 2) (dC (.int 1))) (b5 (dOp pIx (b6 3) (dC (.int 2))) (b5 (b6 5) d7))))) (c9 7))
  (v7 (dOr (n5 (dOp (a9y true) (b6 7) (b6 1))) (n5 (dOp pGt (a0C (b6 1) (b6 7)) (dOp m9 (dOp m9 (a0C (b6 1) (b6 2)) (dOp pIx (b6 3) (dC (.int 3)))) (b6 6))))) (m5 (dC (.bl false))) o0))))) o0))
  (m5 (dC (.bl true))))
theorem c0k(E:Edge)(h:Hh):ixD h (eD E) (.int 1)=some (nD E.p)/\ixD h (eD E) (.int 2)=some (nD E.q)/\ixD h (eD E) (.int 3)=some (nD E.cost)/\ixD h (eD E) (.int (-1))=some (tD (E1 E))/\ixD h (eD E) (.int 0)=some (.str (if E.isStep=true then "step" else "call")):=by
 obtain ⟨a,b,c,k⟩:=E
 cases k <;> exact ⟨rfl,rfl,rfl,rfl,rfl⟩
def Ks(C:d9)(m:Ct)(f a p d c:Nat)(F:Fn):Prop:=∀ E ∈ F.edges,E.p=p->(∀ e ∈ k8 ((E1 E).getD d 0),Met m ([f,a,E.q,e],c + E.cost))/\∀ g i b o,E.k = .call g i b o->∀ x,Bh C m d g i b x->Met m ([f,a,E.q,x.1],c + E.cost + x.2)
def a5F:DSp:=fun ds h Q=>∃ (C:d9) (j:Nat) (z:Option Obj) (m:Ct) (f a p d c:Nat) (F:Fn),ds=[cD C,.ref j,tkD [f,a,p,d]]/\WF C/\h[j]?=some (.dT z (tbD m))/\C[f]?=some F/\d < F.facts/\look m [f,a,p,d]=some c/\Ks C m f a p d c F/\Q (.bl true) h
theorem b4b:∀ ds h Q,a5F ds h Q->i7 8 a9p ds h Q:=by
 rintro ds h Q ⟨C,j,z,m,f,a,p,d,c,F,rfl,wf,em,hF,hd,hc,sh,q⟩
 obtain ⟨f1,f2,f3,f4,f5,f6⟩:=wf.fn f F hF
 have eg:ixD h (cD C) (nD f)=some (fD F):=by
  show atI (C.map fD) (f:Int)=_;rw [atN,List.getElem?_map,hF];rfl
 have k0:ixD h (tkD [f,a,p,d]) (.int 0)=some (nD f):=rfl;have k1:ixD h (tkD [f,a,p,d]) (.int 1)=some (nD a):=rfl;have k2:ixD h (tkD [f,a,p,d]) (.int 2)=some (nD p):=rfl;have k3:ixD h (tkD [f,a,p,d]) (.int 3)=some (nD d):=rfl;delta i7 a9p;simp only [VS];left;refine w9 fun T B hT hB=>?_;simp only [k0,eg,fD,VV];refine m8 (fun p' δ h'=>(∃ x3 x4 x5 x6 x7,δ=[some (cD C),some (.ref j),some (tkD [f,a,p,d]),x3,x4,x5,x6,x7])/\h'=h) ⟨⟨_,_,_,_,_,rfl⟩,rfl⟩ (fun _ _ _ _=>Src.ok_nil) ?_ ?_
 ·rintro p1 E r1 δ h' N1 ep1 ⟨⟨x3,x4,x5,x6,x7,rfl⟩,rfl⟩ hN1
  have hE:E ∈ F.edges:=by rw [ep1];exact List.mem_append_right _ (List.mem_cons_self ..)
  obtain ⟨t1,t2,t3,t4,t5⟩:=c0k E h';have next:∀ x4 x5 x6 x7,N1 [some (cD C),some (.ref j),some (tkD [f,a,p,d]),some (eD E),x4,x5,x6,x7] h':=fun _ _ _ _=>hN1 _ _ ⟨⟨_,_,_,_,_,rfl⟩,rfl⟩;obtain ⟨s1,s2⟩:(E.p=p->∀ e ∈ k8 ((E1 E).getD d 0),Met m ([f,a,E.q,e],c + E.cost))/\(E.p=p->∀ g i b o,E.k = .call g i b o->∀ x,Bh C m d g i b x->Met m ([f,a,E.q,x.1],c + E.cost + x.2)):=⟨fun e=>(sh E hE e).1,fun e=>(sh E hE e).2⟩
  subst hT;subst hB;refine B0 ?_
  (try dsimp only);refine q8 fun A1 B1 hA hB=>?_;simp only [t1,k2,VV]
  by_cases hp:E.p=p
  ·refine M8 (fun _=>?_) (fun e=>absurd (congrArg Nat.cast hp) (ne_of_beq_false e))
   have to:tOk (E1 E) F.facts F.facts:=by
    obtain ⟨-,-,-,-,w⟩:=f6 E hE;obtain ⟨_,_,_,k⟩:=E
    cases k with
    |step t=>exact w
    |call g i b o=>obtain ⟨_,_,_,_,w⟩:=w;exact w
   subst hA;left;simp only [t4,k3,tx _ _ _ d _ to hd,VV];refine ⟨_,rfl,?_⟩;simp only [VV];rw [<- J4 (tl _ _ _ d to f4)];refine ⟨by rw [List.length_map];exact Nat.le_trans (J2 (tl _ _ _ d to f4)) (by decide),?_⟩;refine a0e (fun e=>szD (e,0)) Src.ok_nil none (fun x hx K k=>?_) ?_
   ·simp only [VV];exact k
   ·subst hN;left
    have main:∀ (L:List (Nat×Nat)) x5 x6 x7,(∀ x ∈ L,Met m ([f,a,E.q,x.1],c + E.cost + x.2))->N [some (cD C),some (.ref j),some (tkD [f,a,p,d]),some (eD E),some (.lst (L.map szD)),x5,x6,x7] h':=by
     intro L x5 x6 x7 hL;subst hN;refine w9 fun T B hT hB=>?_;simp only [VV];refine m8 (fun p' δ h1=>(∃ x5 x6 x7,δ=[some (cD C),some (.ref j),some (tkD [f,a,p,d]),some (eD E),some (.lst (L.map szD)),x5,x6,x7])/\h1=h') ⟨⟨_,_,_,rfl⟩,rfl⟩ (fun _ _ _ _=>Src.ok_nil) ?_ ?_
     ·rintro p2 x r2 δ h1 N2 ep2 ⟨⟨x5,x6,x7,rfl⟩,rfl⟩ hN2
      obtain ⟨c',el,lc⟩:=hL x (by rw [ep2];exact List.mem_append_right _ (List.mem_cons_self ..));subst hT;subst hB;refine c2i ?_;left;simp only [k0,k1,t2,VV];have ek:D.tup [nD f,nD a,nD E.q,nD x.1]=tkD [f,a,E.q,x.1]:=rfl;rw [ek];subst hN
      (try dsimp only);refine q8 fun A1 B1 hA hB=>?_;simp only [VV];refine G9 em ?_;rw [el];refine M8 (fun e=>Bool.noConfusion (show false=true from e)) (fun _=>G9 em ?_);rw [el];refine ⟨_,rfl,G9 em ?_⟩;rw [hc];refine ⟨_,rfl,?_⟩;simp only [t3,VV];refine M8 (fun e=>absurd (of_decide_eq_true e) (by right)) (fun _=>?_);subst hB;simp only [VV];exact hN2 _ _ ⟨⟨_,_,_,rfl⟩,rfl⟩
     ·rintro δ h1 ⟨⟨x5,x6,x7,rfl⟩,rfl⟩
      exact next _ _ _ _
    have m0:∀ x ∈ (k8 ((E1 E).getD d 0)).map (fun e=>(e,0)),Met m ([f,a,E.q,x.1],c + E.cost + x.2):=fun x hx=>by
     obtain ⟨e,he,rfl⟩:=List.mem_map.mp hx;exact s1 hp e he
    have em0:(k8 ((E1 E).getD d 0)).map (fun e=>szD (e,0))=((k8 ((E1 E).getD d 0)).map fun e=>(e,0)).map szD:=by rw [List.map_map];rfl
    rw [em0]
    (try dsimp only);refine q8 fun A1 B1 hA hB=>?_
    by_cases st:E.isStep=true
    ·rw [if_pos st] at t5;simp only [t5,VV];subst hB;simp only [VV];exact main _ _ _ _ m0
    ·rw [if_neg st] at t5
     obtain ⟨g,i,b,o,ek⟩:∃ g i b o,E.k = .call g i b o:=by
      obtain ⟨_,_,_,k⟩:=E
      cases k with
      |step t=>exact absurd rfl st
      |call g i b o=>exact ⟨g,i,b,o,rfl⟩
     simp only [t5,VV];subst hA;simp only [VV];refine ⟨C,j,z,m,f,a,p,d,F,E,g,i,b,o,rfl,wf,em,hF,hd,hE,ek,fun l ll ok=>?_⟩;simp only [VV];have hl0:((k8 ((E1 E).getD d 0)).map fun e=>((e,0):Nat×Nat)).length <= 6:=by rw [List.length_map];exact J2 (tl _ _ _ d to f4)
     refine ⟨by rw [List.length_map (f:=szD),List.length_map (f:=szD)];omega,?_⟩;rw [<- List.map_append];refine main _ _ _ _ fun x hx=>?_
     rcases List.mem_append.mp hx with w | w
     ·exact m0 x w
     ·exact s2 hp g i b o ek x (ok x w)
  ·refine M8 (fun e=>absurd (Int.ofNat.inj (eq_of_beq e)) hp) (fun _=>?_);subst hB;simp only [VV];exact next _ _ _ _
 ·rintro δ h' ⟨⟨_,_,_,_,_,rfl⟩,rfl⟩
  clear hT hB;subst hN;simp only [VV];exact q
theorem b8R{f:Addr}{fd:FuncData}(F:Fun K "_law_key_shut" "_law_key_shut" a8K f fd)(T:Txt P w K mg)(C_q20:Cal P w K mg base 1 "_law_facts" ["_law_mask_here"] (spD K 1 a0h))(C_q13:Cal P w K mg base 2 "_law_behind_call" ["_law_chart_here","_law_costs","_law_key","_law_edge_here"] (spD K 4 a4W)):l9 P w K mg base CX0 3 f fd ["_law_chart_here","_law_costs","_law_key"] (spD K 3 a5F) :=
 l8 (k:=2) (b:=a9p) F sc_q24 (fun cdv A outer s H E hr=>by
  refine b9 ?_ (c8 (j2 a3d));refine A5 PassesOwn.never rfl ?_ (i6 (i:=3) sc_q24.nd rfl (Or.inl rfl)) ?_
  ·exact y7 (c5 c4 (c5 c4 (sv 0) (c5 c4 (sv 2) b7)) b7)
  refine c8 ?_;refine v8 ?_ ?_ j9
  ·exact i9 (z9 hr.units) (c5 c4 (sv 3) b7) (c5 c4 (sv 2) b7)
  refine b9 ?_ ?_
  ·exact b3Z (i:=4) (hN:=sc_q24.nd) (hix:=rfl) (hx:=(Or.inl rfl)) rfl (N':= ["_law_e"]) (js:=[none]) ⟨rfl,by decide +kernel,rfl,rfl,rfl⟩ (y7 (f8 C_q20 (hr.mono (by decide)) rfl (b4 (c5 c4 (c5 c4 (sv 3) (b9y b8I b7)) (c5 c4 (sv 2) b7)) b8))) (fun s0 H0 fp=>⟨(i6 (i:=0) (show (["_law_e"]:List Str).Nodup by decide +kernel) rfl (Or.inl rfl)),G8,(j4 (b4 (sv 0) (b4 b7 b8)))⟩)
  refine b9 ?_ ?_
  ·refine v8 (i9 (z9 hr.units) (c5 c4 (sv 3) b7) k9) ?_ j9;refine c8 ?_;refine i5 (i:=4) sc_q24.nd rfl (Or.inl rfl) ?_;exact d8 j1 (sv 4) (f8 C_q13 (hr.mono (by decide)) rfl (b4 (sv 0) (b4 (sv 1) (b4 (sv 2) (b4 (sv 3) b8)))))
  refine c8 ?_;refine A5 PassesOwn.never rfl (y7 (sv 4)) ?_ ?_
  ·exact Q8 rfl (p7 (i6 (i:=5) sc_q24.nd rfl (Or.inl rfl)) (p7 (i6 (i:=6) sc_q24.nd rfl (Or.inl rfl)) E4))
  refine b9 ?_ ?_
  ·refine i5 (i:=7) ?_ ?_ ?_ ?_
   ·exact sc_q24.nd
   ·exact rfl
   ·exact Or.inl rfl
   refine j4 (n:=4) ?_;refine b4 (c5 c4 (sv 2) b7) ?_;exact b4 (c5 c4 (sv 2) b7) (b4 (c5 c4 (sv 3) b7) (b4 (sv 5) b8))
  refine c8 ?_;refine v8 ?_ (c8 (j2 a3d)) j9;exact W7 (T4 (i9 (a4U hr.units) (sv 7) (sv 1) rfl) (Q5 (i9 a0G (O7 hr.units (sv 1) (sv 7)) (d8 j1 (d8 j1 (O7 hr.units (sv 1) (sv 2)) (c5 c4 (sv 3) b7)) (sv 6)))))) b4b
def a5y:DS:=(f7 (j0 (j8 a5I (b5 (b6 0) d7)) (c9 1))
  (f7 (j0 (j8 a5o (b5 (b6 1) d7)) (c9 2))
  (f7 (j0 (j8 a5q (b5 (b6 2) d7)) (a2f 2 (u8 (c9 3) (u8 (c9 4) M6))))
  (f7 (j0 (j8 a5h (b5 (b6 2) (b5 (dC (.int 0)) (b5 (b6 3) d7)))) (c9 5))
  (f7 (j0 a1B (c9 6))
  (f7 (a1m (a0m (b6 4)) (c9 7) (f7 (j0 (dOp pIx (b6 5) (a0C (b6 4) (b6 7))) (c9 8))
  (f7 (v7 (n5 (dOp (pEq true) (dSl (b6 8) T2 (a0A (dC (.int 5)))) (dOp m9 (u0 (b5 (dC (.str "within")) d7)) (b6 7)))) (m5 (dC (.bl false))) o0)
  (a5M (b6 6) (b6 7) (dOp pIx (b6 8) (dC (.int 5)))))))
  (f7 (E2 (v6 (b5 (dCB H9 (b5 (b6 1) d7)) d7)) (c9 9) (E2 (v6 (b5 (dOp pIx (dOp pIx (b6 1) (b6 9)) (dC (.int 1))) d7)) (c9 10) (v7 (n5 (dOp (pEq true) (a8F (b6 6) (u0 (b5 (b6 9) (b5 (b6 10) (b5 (dC (.int 0)) (b5 (b6 10) d7)))))) (dC (.int 0)))) (m5 (dC (.bl false))) o0)))
  (f7 (a1m (a0m (b6 6)) (c9 7) (v7 (b2z (dTr (j8 a5F (b5 (b6 1) (b5 (b6 6) (b5 (b6 7) d7)))))) (m5 (dC (.bl false))) o0))
  (m5 (dOp (pEq false) (b6 2) (b6 1)))))))))))
def E9(I:List (Ky×Nat)):Ct:=I.map fun x=>(x.1.t,x.2)
theorem ndT{I:List (Ky×Nat)}(nd:(I.map (·.1)).Nodup):(I.map fun x=>x.1.t).Nodup:=by
 have:(I.map fun x=>x.1.t)=(I.map (·.1)).map Ky.t:=by rw [List.map_map];rfl
 rw [this];exact List.Pairwise.map _ (fun a b n e=>n (Ky.inj e)) nd
theorem a7q(I:List (Ky×Nat)):keys (fnd I)=I.map fun x=>x.1.t:=by
 unfold keys fnd;rw [List.map_map]
 have:(I.zipIdx.map ((fun x:Kt×Nat=>x.1) ∘ fun x:(Ky×Nat)×Nat=>(x.1.1.t,x.2)))=(I.zipIdx.map (·.1)).map fun x=>x.1.t:=by rw [List.map_map];rfl
 rw [this,List.zipIdx_map_fst]
theorem a3G(I:List (Ky×Nat)):keys (E9 I)=I.map fun x=>x.1.t:=by unfold keys E9;rw [List.map_map];rfl
theorem U2{I:List (Ky×Nat)}(nd:(I.map (·.1)).Nodup){k:Ky}{c:Nat}:look (E9 I) k.t=some c ↔ (k,c) ∈ I:=by
 constructor
 ·intro h;obtain ⟨x,hx,e⟩:=List.mem_map.mp (a3g h);have e1:=Ky.inj (congrArg Prod.fst e);have e2:x.2=c:=congrArg Prod.snd e;rw [<- e1,<- e2];exact hx
 ·intro h;exact a4O (by rw [a3G];exact ndT nd) (List.mem_map.mpr ⟨_,h,rfl⟩)
theorem b3T{I:List (Ky×Nat)}(nd:(I.map (·.1)).Nodup){n:Nat}{y:Ky×Nat}(hy:I[n]?=some y):y.1 ∉ (I.take n).map (·.1):=fun h=>by
 obtain ⟨z,hz,e⟩:=List.mem_map.mp h;obtain ⟨k,hk⟩:=List.mem_iff_getElem?.mp hz;rw [List.getElem?_take] at hk
 split at hk
 ·rename_i lt;have h1:(I.map (·.1))[k]?=some y.1:=by rw [List.getElem?_map,hk];exact congrArg some e
  have h2:(I.map (·.1))[n]?=some y.1:=by rw [List.getElem?_map,hy];rfl
  obtain ⟨l1,e1⟩:=List.getElem?_eq_some_iff.mp h1;obtain ⟨l2,e2⟩:=List.getElem?_eq_some_iff.mp h2;exact absurd (a0i nd l1 l2 (e1.trans e2.symm)) (Nat.ne_of_lt lt)
 ·cases hk
theorem b2l{I:List (Ky×Nat)}{y:Ky×Nat}(h:y.1 ∉ I.map (·.1)):A2 (E9 I) y.1.t y.2=E9 (I ++ [y]):=by
 unfold A2;rw [if_neg]
 ·unfold E9;rw [List.map_append];rfl
 ·intro e
  have:=any_key.mp e
  rw [a3G] at this;obtain ⟨x,hx,ex⟩:=List.mem_map.mp this;exact h (by rw [<- Ky.inj ex];exact List.mem_map.mpr ⟨x,hx,rfl⟩)
theorem b2V{C:d9}(wf:WF C){rs:List Row}{I:List (Ky×Nat)}(dn:b8h C rs I){f a p d c:Nat}{F:Fn}(hF:C[f]?=some F)(hk:(⟨f,a,p,d⟩,c) ∈ I):Ks C (E9 I) f a p d c F:=by
 have met:∀ (k:Ky) (n:Nat),(∃ c',(k,c') ∈ I/\c' <= n)->Met (E9 I) (k.t,n):=fun k n ⟨c',h1,h2⟩=>⟨c',(U2 dn.nd).mpr h1,h2⟩
 intro E hE hp;obtain ⟨n,hn⟩:=List.mem_iff_getElem?.mp hE;refine ⟨fun e he=>met ⟨f,a,E.q,e⟩ _ (dn.ov ⟨f,a,p,d⟩ c F E n hk hF hn hp e he),?_⟩
 rintro g i b o ek ⟨xe,xc⟩ ⟨G,cc,y,hG,h1,h2,h3,h4⟩
 obtain ⟨k,hk'⟩:=List.mem_iff_getElem?.mp hk;have hI:=(U2 dn.nd (k:=⟨g,cc,G.places - 1,y⟩)).mp h3;obtain ⟨k2,hk2⟩:=List.mem_iff_getElem?.mp hI;have bt:a0v E=b:=by unfold a0v;rw [ek]
 have g1:=(wf.fn g G hG).1;refine met ⟨f,a,E.q,xe⟩ _ (dn.sh g cc ⟨c + E.cost,⟨f,a,p,d⟩,k,n,E⟩ ⟨xc,y,k2⟩ ⟨_,_,k,n,F,E,i,b,o,hk',hF,hn,hp,ek,h1,rfl⟩ ⟨_,_,k2,G,hk2,rfl,rfl,hG,by show G.places - 1 + 1=G.places;omega,rfl⟩ (c + E.cost + xc,⟨f,a,E.q,xe⟩,.short k n k2 xe) (List.mem_map.mpr ⟨xe,?_,rfl⟩));rw [bt];exact h4
def S_q43:DSp:=i7 11 a5y
theorem b3t:∀ ds h Q,S_q43 ds h Q->i7 11 a5y ds h Q:=fun _ _ _ h=>h
theorem law_true(ns:List Int)(hl:ns.length <= 63)(hb:∀ x ∈ ns,Builtin.Int.intBits x <= 1048576):S_q43 [.scr (ns.map D.int)] [] (fun v _=>v = .bl true):=by
 delta S_q43;delta i7 a5y;simp only [VS];left;simp only [VV];refine ⟨ns,rfl,hl,fun C wf=>?_⟩;subst hN;left;simp only [VV];refine ⟨C,rfl,wf.six,fun F hF=>?_,?_⟩
 ·obtain ⟨f,hf⟩:=List.mem_iff_getElem?.mp hF;exact (wf.fn f F hf).2.2.2.2.1
 subst hN;left;simp only [VV];refine ⟨C,rfl,wf,fun rs I g i j dn rl il kI ei ej _=>?_⟩;rw [List.nil_append] at ei ej ⊢;simp only [VV];refine ⟨trivial,?_⟩;subst hN;left;simp only [VV];refine ⟨cD C,.ref i,C,rs,0,_,rfl,ChD.of _ C,wf,l7 ei,by right,dn.pap,?_⟩;obtain ⟨hb,ehb⟩:∃ hb,hb=g ++ [O.lst ((x0 I).map clD)]:=⟨_,rfl⟩
 have et:hb[g.length]?=some (.lst ((x0 I).map clD)):=by rw [ehb];exact u9 ..
 have ej:hb[j]?=some (.dT none (tbD (fnd I))):=by rw [ehb];exact U1 ej
 have jl:j < g.length:=(List.getElem?_eq_some_iff.mp (by assumption:g[j]?=some _)).1;have bl:hb.length=g.length + 1:=by rw [ehb,List.length_append];rfl
 rw [<- ehb];subst hN;left;simp only [VV];subst hN;left;refine a0r fun T B hT hB=>?_;refine a4Q (m:=fnd I) (i:=j) (fun x=>tkD x.1) (a3F rfl (U1 ej)) (fun p δ h'=>(∃ x7 x8,δ=[some (.scr (ns.map D.int)),some (cD C),some (cD C),some (.ref i),some (.ref j),some (.ref g.length),some (.ref hb.length),x7,x8,none,none])/\h'=hb ++ [.dT none (tbD (E9 (I.take p.length)))]) ⟨⟨_,_,rfl⟩,rfl⟩ (fun p δ h' hp=>by rw [hp.2];exact U1 ej) ?_ ?_
 ·rintro p x r δ h' o N1 X1 R X2 ee ⟨⟨_,_,rfl⟩,rfl⟩ hN1 hR
  obtain ⟨y,hy,rfl,tk⟩:=b7U ee;obtain ⟨⟨yf,ya,yp,yd⟩,yc⟩:=y;have lf:look (fnd I) [yf,ya,yp,yd]=some p.length:=a4O (by rw [a7q];exact ndT dn.nd) (by rw [ee];exact List.mem_append_right _ (List.mem_cons_self ..));have e1:(fz j o (fnd I) (hb ++ [.dT none (tbD (E9 (I.take p.length)))]))[j]?=some (.dT (some o) (tbD (fnd I))):=a2p (U1 ej);have e2:(fz j o (fnd I) (hb ++ [.dT none (tbD (E9 (I.take p.length)))]))[g.length]?=some (.lst ((x0 I).map clD)):=by rw [b4M (by right)];exact U1 et
  have e3:(fz j o (fnd I) (hb ++ [.dT none (tbD (E9 (I.take p.length)))]))[hb.length]?=some (.dT none (tbD (E9 (I.take p.length)))):=b6O ej
  have ic:atI ((x0 I).map clD) (p.length:Int)=some (clD (.within yf ya yp yd yc)):=by
   rw [atN];unfold x0;rw [List.getElem?_map,List.getElem?_map,hy];rfl
  have cp:=b2l (I:=I.take p.length) (y:=(⟨yf,ya,yp,yd⟩,yc)) (b3T dn.nd hy);rw [<- tk] at cp;subst hT;subst hB;refine B0 ?_;left;simp only [VV];have ep:Ky.t ⟨yf,ya,yp,yd⟩=[yf,ya,yp,yd]:=rfl;rw [ep];refine G9 e1 ?_;rw [lf];refine ⟨_,rfl,?_⟩;simp only [A6 (l7 e2),ic,VV];subst hN;left
  (try dsimp only);refine q8 fun A1 B1 hA hB=>?_;have ct:a0I [D.str (Str.ofString "within"),nD yf,nD ya,nD yp,nD yd,nD yc] none (some 5)=[.str (Str.ofString "within"),nD yf,nD ya,nD yp,nD yd]:=rfl;simp only [clD,tkD,ct,VV2];have p5:∀ h',Pd h' (D.tup [D.str (Str.ofString "within"),nD yf,nD ya,nD yp,nD yd]) (.tuple [.str (Str.ofString "within"),.int yf,.int ya,.int yp,.int yd]) 1:=fun h'=>Pd.tup (n:=0) (.cons (.str a6w) (.cons (.int _) (.cons (.int _) (.cons (.int _) (.cons (.int _) .nil)))));refine ⟨List.cons_ne_nil _ _,by decide,a2P rfl (p5 _) (p5 _) (by decide) ?_⟩;simp only [VV];subst hB;simp only [VV];subst hN;have kk:D.tup [nD yf,nD ya,nD yp,nD yd]=tkD [yf,ya,yp,yd]:=rfl;simp only [VV];rw [kk];refine a1N e3 ?_ ?_
  ·unfold E9;rw [List.length_map,List.length_take];omega
  ·rw [b6S ej];have cp:A2 (E9 (I.take p.length)) [yf,ya,yp,yd] yc=E9 (I.take (p.length + 1)):=cp;rw [cp];exact hN1 _ _ ⟨⟨_,_,rfl⟩,by rw [List.length_append];rfl⟩
 ·rintro δ h' ⟨⟨x7,x8,rfl⟩,rfl⟩
  rw [a5f,List.take_length];have eC:(hb ++ [O.dT none (tbD (E9 I))])[hb.length]?=some (.dT none (tbD (E9 I))):=u9 ..;generalize hb ++ [O.dT none (tbD (E9 I))]=h4 at *;generalize hb.length=ct at *;clear hT hB;subst hN;left;refine w9 fun T B hT hB=>?_;simp only [cD,VV];have c6:=wf.six;rw [List.length_map,o8,Int.toNat_natCast];refine ⟨⟨by right,by right⟩,?_⟩;refine m8 (fun p δ h'=>(∃ x9 x10,δ=[some (.scr (ns.map D.int)),some (cD C),some (cD C),some (.ref i),some (.ref j),some (.ref g.length),some (.ref ct),x7,x8,x9,x10])/\h'=h4) ⟨⟨_,_,rfl⟩,rfl⟩ (fun _ _ _ _=>Src.ok_nil) ?_ ?_
  ·rintro p1 f r1 δ h' N1 ep1 ⟨⟨_,_,rfl⟩,rfl⟩ hN1
   obtain ⟨rfl,hf⟩:=z5 ep1;obtain ⟨F,hF⟩:∃ F,C[p1.length]?=some F:=⟨_,List.getElem?_eq_getElem hf⟩
   obtain ⟨f1,f2,f3,f4,f5,f6⟩:=wf.fn _ F hF
   have eg:ixD h' (cD C) (nD p1.length)=some (fD F):=by
    show atI (C.map fD) (p1.length:Int)=_;rw [atN,List.getElem?_map,hF];rfl
   subst hT;subst hB;refine B0 ?_;refine w9 fun T B hT hB=>?_;rw [Int.zero_add];simp only [eg,fD,VV];refine ⟨⟨by right,by right⟩,?_⟩;rw [o8,Int.toNat_natCast];refine m8 (fun p δ h1=>(∃ x10,δ=[some (.scr (ns.map D.int)),some (cD C),some (cD C),some (.ref i),some (.ref j),some (.ref g.length),some (.ref ct),x7,x8,some (nD p1.length),x10])/\h1=h') ⟨⟨_,rfl⟩,rfl⟩ (fun _ _ _ _=>Src.ok_nil) ?_ ?_
   ·rintro p2 d r2 δ h1 N2 ep2 ⟨⟨_,rfl⟩,rfl⟩ hN2
    obtain ⟨rfl,hd⟩:=z5 ep2;subst hT;subst hB;refine B0 ?_;rw [Int.zero_add];have kk:D.tup [nD p1.length,nD p2.length,D.int 0,nD p2.length]=tkD [p1.length,p2.length,0,p2.length]:=rfl
    (try dsimp only);refine q8 fun A1 B1 hA hB=>?_;simp only [VV];rw [kk];refine ⟨b2F eC,G9 eC ?_⟩;have l0:look (E9 I) [p1.length,p2.length,0,p2.length]=some 0:=(U2 dn.nd (k:=⟨p1.length,p2.length,0,p2.length⟩)).mpr (dn.bg _ F _ hF hd);rw [l0];refine M8 (fun e=>Bool.noConfusion (show false=true from e)) (fun _=>?_);subst hB;simp only [VV];exact hN2 _ _ ⟨⟨_,rfl⟩,rfl⟩
   ·rintro δ h1 ⟨⟨_,rfl⟩,rfl⟩
    exact hN1 _ _ ⟨⟨_,_,rfl⟩,rfl⟩
  ·rintro δ h' ⟨⟨_,_,rfl⟩,rfl⟩
   clear hT hB;subst hN;left;refine a0r fun T B hT hB=>?_;refine a4Q (m:=E9 I) (i:=ct) (fun x=>tkD x.1) (a3F rfl eC) (fun p δ h1=>(∃ x7 x9 x10,δ=[some (.scr (ns.map D.int)),some (cD C),some (cD C),some (.ref i),some (.ref j),some (.ref g.length),some (.ref ct),x7,x8,x9,x10])/\h1=h') ⟨⟨_,_,_,rfl⟩,rfl⟩ (fun p δ h1 hp=>by rw [hp.2];exact eC) ?_ ?_
   ·rintro p x r δ h1 o N1 X1 R X2 ee ⟨⟨_,_,_,rfl⟩,rfl⟩ hN1 hR
    obtain ⟨y,hy,rfl⟩:=List.mem_map.mp (show x ∈ E9 I by rw [ee];exact List.mem_append_right _ (List.mem_cons_self ..));obtain ⟨f,a,q',d,F,ek,hF,_,_,hd⟩:=kI y hy;obtain ⟨⟨yf,ya,yp,yd⟩,yc⟩:=y;have ek:[yf,ya,yp,yd]=[f,a,q',d]:=ek
    injection ek with k1 ek
    injection ek with k2 ek
    injection ek with k3 ek
    injection ek with k4 _
    subst k1 k2 k3 k4;subst hT;subst hB;refine B0 ?_
    (try dsimp only);refine q8 fun A1 B1 hA hB=>?_;simp only [VV];refine ⟨C,ct,_,E9 I,yf,ya,yp,yd,yc,F,rfl,wf,a2p eC,hF,hd,(U2 dn.nd (k:=⟨yf,ya,yp,yd⟩)).mpr hy,b2V wf dn hF hy,?_⟩;simp only [VV];subst hB;simp only [VV];exact hN1 _ _ ⟨⟨_,_,_,rfl⟩,rfl⟩
   ·rintro δ h1 ⟨⟨_,_,_,rfl⟩,rfl⟩
    clear hT hB;subst hN;simp only [VV2];exact a2P rfl (b9N _ C) (b9N _ C) (by decide) rfl
theorem b6i{f:Addr}{fd:FuncData}(F:Fun K "law" "law" T8 f fd)(T:Txt P w K mg)(C_q16:Cal P w K mg base 5 "_law_chart" ["_law_script"] (spD K 1 a5I))(C_q17:Cal P w K mg base 1 "_law_copy" ["_law_chart_here"] (spD K 1 a5o))(C_q41:Cal P w K mg base 8 "inner" ["chart"] (spD K 1 a5q))(C_q34:Cal P w K mg base 6 "claims" ["chart","start","rows"] (spD K 3 a5h))(C_q24:Cal P w K mg base 3 "_law_key_shut" ["_law_chart_here","_law_costs","_law_key"] (spD K 3 a5F)):l9 P w K mg base CX0 9 f fd ["_law_script"] (spD K 1 S_q43) :=
 l8 (k:=8) (b:=a5y) F sc_q43 (fun cdv A outer s H E hr=>by
  refine b9 ?_ ?_
  ·exact i5 (i:=1) sc_q43.nd rfl (Or.inl rfl) (f8 C_q16 (hr.mono (by decide)) rfl (b4 (sv 0) b8))
  refine b9 ?_ ?_
  ·exact i5 (i:=2) sc_q43.nd rfl (Or.inl rfl) (f8 C_q17 (hr.mono (by decide)) rfl (b4 (sv 1) b8))
  refine b9 ?_ ?_
  ·exact N0 (f8 C_q41 (hr.mono (by decide)) rfl (b4 (sv 2) b8)) (Q8 rfl (p7 (i6 (i:=3) sc_q43.nd rfl (Or.inl rfl)) (p7 (i6 (i:=4) sc_q43.nd rfl (Or.inl rfl)) E4)))
  refine b9 ?_ ?_
  ·refine i5 (i:=5) sc_q43.nd rfl (Or.inl rfl) ?_;exact f8 C_q34 (hr.mono (by decide)) rfl (b4 (sv 2) (b4 b7 (b4 (sv 3) b8)))
  refine b9 ?_ ?_
  ·exact i5 (i:=6) sc_q43.nd rfl (Or.inl rfl) T3
  refine b9 ?_ ?_
  ·exact b0A PassesOwn.never rfl (a5G (sv 4)) (i6 (i:=7) sc_q43.nd rfl (Or.inl rfl)) (b9 (i5 (i:=8) sc_q43.nd rfl (Or.inl rfl) (c5 c4 (sv 5) (O7 hr.units (sv 4) (sv 7))))     (b9 (v8 (i9 (L9 hr.units) (a3h (sv 8) Z8 (O9 b7)) (d8 j1 (j4 (b4 k9 b8)) (sv 7))) (c8 (j2 a3d)) j9)     (c8 (a4h hr.units (sv 6) (sv 7) (c5 c4 (sv 8) b7)))))
  refine b9 ?_ ?_
  ·refine A5 PassesOwn.never rfl ?_ (i6 (i:=9) sc_q43.nd rfl (Or.inl rfl)) ?_
   ·exact t8 rfl T.b_range (b4 (k7 y6 rfl T.b_len PySem.boot_len (b4 (sv 1) b8)) b8)
   refine c8 ?_;refine A5 PassesOwn.never rfl ?_ (i6 (i:=10) sc_q43.nd rfl (Or.inl rfl)) ?_
   ·exact t8 rfl T.b_range (b4 (c5 c4 (c5 c4 (sv 1) (sv 9)) b7) b8)
   refine c8 ?_;refine v8 ?_ (c8 (j2 a3d)) j9;exact i9 (L9 hr.units) (b0x hr.units (sv 6) (j4 (b4 (sv 9) (b4 (sv 10) (b4 b7 (b4 (sv 10) b8))))) ⟨rfl,rfl,rfl,rfl⟩) b7
  refine b9 ?_ (c8 (j2 (D6 (z9 hr.units) (sv 2) (sv 1))));exact b0A PassesOwn.never rfl (a5G (sv 6)) (i6 (i:=7) sc_q43.nd rfl (Or.inl rfl)) (c8 (v8 (a3P (A8 (f8 C_q24 (hr.mono (by decide)) rfl (b4 (sv 1) (b4 (sv 6) (b4 (sv 7) b8)))))) (c8 (j2 a3d)) j9))) b3t
end
theorem a0J{P:Program}{w:World}{K:PySem.W.Frag}{a:Addr}{t1 t2 t3 t4 t5 t6:Tok}{ep:Nat}(l:K.lookup a=some { cls:=.type "dict",data:=.dict #[{ hash:=PyData.keyHash w.params "step",key:=.str "step" t1,val:=.int 4 t2 },{ hash:=PyData.keyHash w.params "in",key:=.str "in" t3,val:=.int 5 t4 },{ hash:=PyData.keyHash w.params "over",key:=.str "over" t5,val:=.int 7 t6 }] ep }):a4R P w K a (k_MOVE_TABLES.map fun p=>(p.1,V.int p.2)):=by
 have ks:∀ (x:Str) (t:Tok),X0 (.inr x) (.str x t)=true:=fun x t=>by simp [X0,Value.isStrOf]
 refine ⟨_,_,_,[(.inr "step",.int 4 t2),(.inr "in",.int 5 t4),(.inr "over",.int 7 t6)],l,⟨rfl,rfl,rfl⟩,rfl,?_,.cons (ks _ t1) rfl (.cons (ks _ t3) rfl (.cons (ks _ t5) rfl .nil)),(show [(.inr "step":Key),.inr "in",.inr "over"].Nodup by decide +kernel),.cons ⟨rfl,⟨_,rfl⟩⟩ (.cons ⟨rfl,⟨_,rfl⟩⟩ (.cons ⟨rfl,⟨_,rfl⟩⟩ .nil))⟩;intro e he;simp only [List.mem_toArray,List.mem_cons,List.not_mem_nil,or_false] at he
 rcases he with rfl | rfl | rfl
 ·exact ⟨.inr "step",ks _ t1,rfl⟩
 ·exact ⟨.inr "in",ks _ t3,rfl⟩
 ·exact ⟨.inr "over",ks _ t5,rfl⟩
theorem A0{α:Type}{n:Nat}{us:List α}(h:us.length=n + 1):∃ a t,us=a :: t/\t.length=n:=by
 cases us with
 |nil=>cases h
 |cons a t=>exact ⟨a,t,rfl,Nat.succ.inj h⟩
theorem a1e{α:Type}{us:List α}(h:us.length=0):us=[]:=List.length_eq_zero_iff.mp h
theorem ln1{F:FuncData}{ps:List Str}{us:List Value}(h:us.length=1)(k:∀ a,bindArgs F ⟨[a],[]⟩=pure (ps.zip [a])):bindArgs F ⟨us,[]⟩=pure (ps.zip us):=by
 obtain ⟨a,us1,rfl,h1⟩:=A0 h
 cases a1e h1
 exact k a
theorem ln2{F:FuncData}{ps:List Str}{us:List Value}(h:us.length=2)(k:∀ a b,bindArgs F ⟨[a,b],[]⟩=pure (ps.zip [a,b])):bindArgs F ⟨us,[]⟩=pure (ps.zip us):=by
 obtain ⟨a,us1,rfl,h1⟩:=A0 h;obtain ⟨b,us2,rfl,h2⟩:=A0 h1
 cases a1e h2
 exact k a b
theorem ln3{F:FuncData}{ps:List Str}{us:List Value}(h:us.length=3)(k:∀ a b c,bindArgs F ⟨[a,b,c],[]⟩=pure (ps.zip [a,b,c])):bindArgs F ⟨us,[]⟩=pure (ps.zip us):=by
 obtain ⟨a,us1,rfl,h1⟩:=A0 h;obtain ⟨b,us2,rfl,h2⟩:=A0 h1;obtain ⟨c,us3,rfl,h3⟩:=A0 h2
 cases a1e h3
 exact k a b c
theorem ln4{F:FuncData}{ps:List Str}{us:List Value}(h:us.length=4)(k:∀ a b c d,bindArgs F ⟨[a,b,c,d],[]⟩=pure (ps.zip [a,b,c,d])):bindArgs F ⟨us,[]⟩=pure (ps.zip us):=by
 obtain ⟨a,us1,rfl,h1⟩:=A0 h;obtain ⟨b,us2,rfl,h2⟩:=A0 h1;obtain ⟨c,us3,rfl,h3⟩:=A0 h2;obtain ⟨d,us4,rfl,h4⟩:=A0 h3
 cases a1e h4
 exact k a b c d
theorem ln5{F:FuncData}{ps:List Str}{us:List Value}(h:us.length=5)(k:∀ a b c d e,bindArgs F ⟨[a,b,c,d,e],[]⟩=pure (ps.zip [a,b,c,d,e])):bindArgs F ⟨us,[]⟩=pure (ps.zip us):=by
 obtain ⟨a,us1,rfl,h1⟩:=A0 h;obtain ⟨b,us2,rfl,h2⟩:=A0 h1;obtain ⟨c,us3,rfl,h3⟩:=A0 h2;obtain ⟨d,us4,rfl,h4⟩:=A0 h3;obtain ⟨e,us5,rfl,h5⟩:=A0 h4
 cases a1e h5
 exact k a b c d e
theorem ln6{F:FuncData}{ps:List Str}{us:List Value}(h:us.length=6)(k:∀ a b c d e f,bindArgs F ⟨[a,b,c,d,e,f],[]⟩=pure (ps.zip [a,b,c,d,e,f])):bindArgs F ⟨us,[]⟩=pure (ps.zip us):=by
 obtain ⟨a,us1,rfl,h1⟩:=A0 h;obtain ⟨b,us2,rfl,h2⟩:=A0 h1;obtain ⟨c,us3,rfl,h3⟩:=A0 h2;obtain ⟨d,us4,rfl,h4⟩:=A0 h3;obtain ⟨e,us5,rfl,h5⟩:=A0 h4;obtain ⟨f,us6,rfl,h6⟩:=A0 h5
 cases a1e h6
 exact k a b c d e f
def Gt(K:PySem.W.Frag)(x:Str)(st:Stmt):Prop:=∃ (a:Addr) (an:Option Addr) (kV dc pm cd ct:Value),PySem.W.nsIn K mainGlobals x=some (some (.ref a))/\Fun K x x st a (PySem.W.fnOf x x (j6 st) (j3 st) (c7 st) .none kV dc pm an cd ct)/\PySem.W.keepIn K (.ref a)=true
theorem gt_mk{K:PySem.W.Frag}{x:Str}{st:Stmt}{a:Addr}{od an:Option Addr}{sl:Array (Option Value)}{oc kV dc pm cd ct:Value}(e:PySem.W.nsIn K mainGlobals x=some (some (.ref a)))(l:K.lookup a=some ⟨oc,od,.func (PySem.W.fnOf x x (j6 st) (j3 st) (c7 st) .none kV dc pm an cd ct),sl⟩)(c:PySem.W.codeIn K cd x=true)(k:PySem.W.keepIn K (.ref a)=true):Gt K x st:=⟨a,an,kV,dc,pm,cd,ct,e,B2 (st:=st) l c k,k⟩
theorem Gt.cal{P:Program}{w:World}{K:PySem.W.Frag}{mg:Str->Option Value}{h base:Heap}{x:Str}{st:Stmt}{k:Nat}{ps:List Str}{S:Sp}(g:Gt K x st)(X:K.In h)(G:h.Ns mainGlobals mg)(ok:∀ {f fd},Fun K x x st f fd->l9 P w K mg base CX0 k f fd ps S)(hb:∀ {an kV dc pm cd ct} (us:List Value),us.length=ps.length->bindArgs (PySem.W.fnOf x x (j6 st) (j3 st) (c7 st) .none kV dc pm an cd ct) ⟨us,[]⟩=pure (ps.zip us)):Cal P w K mg base k x ps S:=by
 obtain ⟨a,an,kV,dc,pm,cd,ct,e,F,kp⟩:=g;exact ⟨a,_,ok F,PySem.W.mg_of X G e,kp,.all fun us hl=>hb us hl⟩
theorem all_mk{l:PySem.W.OpenLaw}{w:World}{K:PySem.W.Frag}{h:Heap}{mg:Str->Option Value}{fa a_q43 a_q3 a_q4 a_q5 a_q0 a_q1 a_q2 a_q6 a_q7 a_q12 a_q11 a_q10 a_q9 a_q8:Addr}(X:K.In h)(G:h.Ns mainGlobals mg)(hfa:mg "law" = some (.ref fa))
  {od_q43 an_q43:Option Addr} {sl_q43:Array (Option Value)} {oc_q43 kV_q43 dc_q43 pm_q43 cd_q43 ct_q43:Value}
  {od_q3 an_q3:Option Addr} {sl_q3:Array (Option Value)} {oc_q3 kV_q3 dc_q3 pm_q3 cd_q3 ct_q3:Value}
  {od_q4 an_q4:Option Addr} {sl_q4:Array (Option Value)} {oc_q4 kV_q4 dc_q4 pm_q4 cd_q4 ct_q4:Value}
  {od_q5 an_q5:Option Addr} {sl_q5:Array (Option Value)} {oc_q5 kV_q5 dc_q5 pm_q5 cd_q5 ct_q5:Value}
  {od_q0 an_q0:Option Addr} {sl_q0:Array (Option Value)} {oc_q0 kV_q0 dc_q0 pm_q0 cd_q0 ct_q0:Value}
  {od_q1 an_q1:Option Addr} {sl_q1:Array (Option Value)} {oc_q1 kV_q1 dc_q1 pm_q1 cd_q1 ct_q1:Value}
  {od_q2 an_q2:Option Addr} {sl_q2:Array (Option Value)} {oc_q2 kV_q2 dc_q2 pm_q2 cd_q2 ct_q2:Value}
  {od_q6 an_q6:Option Addr} {sl_q6:Array (Option Value)} {oc_q6 kV_q6 dc_q6 pm_q6 cd_q6 ct_q6:Value}
  {od_q7 an_q7:Option Addr} {sl_q7:Array (Option Value)} {oc_q7 kV_q7 dc_q7 pm_q7 cd_q7 ct_q7:Value}
  {od_q12 an_q12:Option Addr} {sl_q12:Array (Option Value)} {oc_q12 kV_q12 dc_q12 pm_q12 cd_q12 ct_q12:Value}
  {od_q11 an_q11:Option Addr} {sl_q11:Array (Option Value)} {oc_q11 kV_q11 dc_q11 pm_q11 cd_q11 ct_q11:Value}
  {od_q10 an_q10:Option Addr} {sl_q10:Array (Option Value)} {oc_q10 kV_q10 dc_q10 pm_q10 cd_q10 ct_q10:Value}
  {od_q9 an_q9:Option Addr} {sl_q9:Array (Option Value)} {oc_q9 kV_q9 dc_q9 pm_q9 cd_q9 ct_q9:Value}
  {od_q8 an_q8:Option Addr} {sl_q8:Array (Option Value)} {oc_q8 kV_q8 dc_q8 pm_q8 cd_q8 ct_q8:Value}
  {C_Offers:Addr} (e_Offers:PySem.W.nsIn K mainGlobals "Offers" = some (some (.ref C_Offers))) (pg_Offers:PySem.W.plainGet K C_Offers Str.empty=true) (hd_Offers:PySem.W.hasDictIn K C_Offers=true) (po_Offers:PySem.W.plainOver K C_Offers=true) (sa_Offers:PySem.W.findIn K (.ref C_Offers) "__setattr__" = some (some (.builtin "object.__setattr__"))) (mk_Offers:PySem.W.makesIn K C_Offers=true) (kp_Offers:PySem.W.keepIn K (.ref C_Offers)=true)
  {C_Queue:Addr} (e_Queue:PySem.W.nsIn K mainGlobals "Queue" = some (some (.ref C_Queue))) (pg_Queue:PySem.W.plainGet K C_Queue Str.empty=true) (hd_Queue:PySem.W.hasDictIn K C_Queue=true) (po_Queue:PySem.W.plainOver K C_Queue=true) (sa_Queue:PySem.W.findIn K (.ref C_Queue) "__setattr__" = some (some (.builtin "object.__setattr__"))) (mk_Queue:PySem.W.makesIn K C_Queue=true) (kp_Queue:PySem.W.keepIn K (.ref C_Queue)=true)
  {C_Search:Addr} (e_Search:PySem.W.nsIn K mainGlobals "Search" = some (some (.ref C_Search))) (pg_Search:PySem.W.plainGet K C_Search Str.empty=true) (hd_Search:PySem.W.hasDictIn K C_Search=true) (po_Search:PySem.W.plainOver K C_Search=true) (sa_Search:PySem.W.findIn K (.ref C_Search) "__setattr__" = some (some (.builtin "object.__setattr__"))) (mk_Search:PySem.W.makesIn K C_Search=true) (kp_Search:PySem.W.keepIn K (.ref C_Search)=true)
  (n_calls:PySem.W.findIn K (.ref C_Search) "calls" = some none)
  (n_chart:PySem.W.findIn K (.ref C_Search) "chart" = some none)
  (n_ends:PySem.W.findIn K (.ref C_Search) "ends" = some none)
  (n_found:PySem.W.findIn K (.ref C_Search) "found" = some none)
  (n_heap:PySem.W.findIn K (.ref C_Queue) "heap" = some none)
  (n_least:PySem.W.findIn K (.ref C_Offers) "least" = some none)
  (n_offers:PySem.W.findIn K (.ref C_Search) "offers" = some none)
  (n_puts:PySem.W.findIn K (.ref C_Queue) "puts" = some none)
  (n_queue:PySem.W.findIn K (.ref C_Offers) "queue" = some none)
  (n_rows:PySem.W.findIn K (.ref C_Search) "rows" = some none)
  (g_q39:Gt K "facts_in" b0d)
  (g_q31:Gt K "brings" a9e)
  (g_q38:Gt K "exit_of" a8o)
  (g_q50:Gt K "start_facts" a7B)
  (g_q37:Gt K "edges_from" b0J)
  (g_q51:Gt K "table_past" a7w)
  (g_q36:Gt K "edge_taken" a7Q)
  (g_q42:Gt K "is_ahead" a8Z)
  (g_q46:Gt K "rise" a6X)
  (g_q48:Gt K "sink" a8A)
  (g_q44:Gt K "lesser_below" b0E)
  (g_q34:Gt K "claims" a9v)
  (g_q33:Gt K "claim_of" a8T)
  (g_q32:Gt K "claim_ahead" a8Q)
  (g_q30:Gt K "begin_claim" a8a)
  (g_q49:Gt K "start_claim" a7c)
  (g_q35:Gt K "edge_claim" a8s)
  (g_q47:Gt K "short_claim" a7W)
  (g_q40:Gt K "in_claim" a9C)
  (g_q29:Gt K "along_claim" a9E)
  (g_q45:Gt K "move_of" a9c)
  (g_q41:Gt K "inner" b0l)
  (g_q26:Gt K "_law_number" a7d)
  (g_q15:Gt K "_law_cell" a7P)
  (g_q25:Gt K "_law_mask" b0D)
  (g_q28:Gt K "_law_table" a9H)
  (g_q27:Gt K "_law_sizes" a9K)
  (g_q19:Gt K "_law_edge" b0j)
  (g_q18:Gt K "_law_digit" a8H)
  (g_q14:Gt K "_law_by_digits" b0f)
  (g_q23:Gt K "_law_free_table" a7i)
  (g_q22:Gt K "_law_free_edge" a7K)
  (g_q21:Gt K "_law_free_chart" a9l)
  (g_q16:Gt K "_law_chart" b0w)
  (g_q17:Gt K "_law_copy" a9I)
  (g_q20:Gt K "_law_facts" a8k)
  (g_q13:Gt K "_law_behind_call" b0O)
  (g_q24:Gt K "_law_key_shut" a8K)
  (e_q43:PySem.W.nsIn K mainGlobals "law" = some (some (.ref a_q43))) (l_q43:K.lookup a_q43=some ⟨oc_q43,od_q43,.func (PySem.W.fnOf "law" "law" (j6 T8) (j3 T8) (c7 T8) .none kV_q43 dc_q43 pm_q43 an_q43 cd_q43 ct_q43),sl_q43⟩) (c_q43:PySem.W.codeIn K cd_q43 "law" = true) (k_q43:PySem.W.keepIn K (.ref a_q43)=true)
  (e_q3:PySem.W.findIn K (.ref C_Queue) "__init__" = some (some (.ref a_q3))) (l_q3:K.lookup a_q3=some ⟨oc_q3,od_q3,.func (PySem.W.fnOf "__init__" "Queue.__init__" (j6 a2C) (j3 a2C) (c7 a2C) .none kV_q3 dc_q3 pm_q3 an_q3 cd_q3 ct_q3),sl_q3⟩) (c_q3:PySem.W.codeIn K cd_q3 "Queue.__init__" = true) (k_q3:PySem.W.keepIn K (.ref a_q3)=true) (fn_q3:PySem.W.isFn K (.ref a_q3)=true)
  (e_q4:PySem.W.findIn K (.ref C_Queue) "put" = some (some (.ref a_q4))) (l_q4:K.lookup a_q4=some ⟨oc_q4,od_q4,.func (PySem.W.fnOf "put" "Queue.put" (j6 a2A) (j3 a2A) (c7 a2A) .none kV_q4 dc_q4 pm_q4 an_q4 cd_q4 ct_q4),sl_q4⟩) (c_q4:PySem.W.codeIn K cd_q4 "Queue.put" = true) (k_q4:PySem.W.keepIn K (.ref a_q4)=true) (fn_q4:PySem.W.isFn K (.ref a_q4)=true)
  (e_q5:PySem.W.findIn K (.ref C_Queue) "take" = some (some (.ref a_q5))) (l_q5:K.lookup a_q5=some ⟨oc_q5,od_q5,.func (PySem.W.fnOf "take" "Queue.take" (j6 a1S) (j3 a1S) (c7 a1S) .none kV_q5 dc_q5 pm_q5 an_q5 cd_q5 ct_q5),sl_q5⟩) (c_q5:PySem.W.codeIn K cd_q5 "Queue.take" = true) (k_q5:PySem.W.keepIn K (.ref a_q5)=true) (fn_q5:PySem.W.isFn K (.ref a_q5)=true)
  (e_q0:PySem.W.findIn K (.ref C_Offers) "__init__" = some (some (.ref a_q0))) (l_q0:K.lookup a_q0=some ⟨oc_q0,od_q0,.func (PySem.W.fnOf "__init__" "Offers.__init__" (j6 a2o) (j3 a2o) (c7 a2o) .none kV_q0 dc_q0 pm_q0 an_q0 cd_q0 ct_q0),sl_q0⟩) (c_q0:PySem.W.codeIn K cd_q0 "Offers.__init__" = true) (k_q0:PySem.W.keepIn K (.ref a_q0)=true) (fn_q0:PySem.W.isFn K (.ref a_q0)=true)
  (e_q1:PySem.W.findIn K (.ref C_Offers) "offer" = some (some (.ref a_q1))) (l_q1:K.lookup a_q1=some ⟨oc_q1,od_q1,.func (PySem.W.fnOf "offer" "Offers.offer" (j6 a1X) (j3 a1X) (c7 a1X) .none kV_q1 dc_q1 pm_q1 an_q1 cd_q1 ct_q1),sl_q1⟩) (c_q1:PySem.W.codeIn K cd_q1 "Offers.offer" = true) (k_q1:PySem.W.keepIn K (.ref a_q1)=true) (fn_q1:PySem.W.isFn K (.ref a_q1)=true)
  (e_q2:PySem.W.findIn K (.ref C_Offers) "settled" = some (some (.ref a_q2))) (l_q2:K.lookup a_q2=some ⟨oc_q2,od_q2,.func (PySem.W.fnOf "settled" "Offers.settled" (j6 a2v) (j3 a2v) (c7 a2v) .none kV_q2 dc_q2 pm_q2 an_q2 cd_q2 ct_q2),sl_q2⟩) (c_q2:PySem.W.codeIn K cd_q2 "Offers.settled" = true) (k_q2:PySem.W.keepIn K (.ref a_q2)=true) (fn_q2:PySem.W.isFn K (.ref a_q2)=true)
  (e_q6:PySem.W.findIn K (.ref C_Search) "__init__" = some (some (.ref a_q6))) (l_q6:K.lookup a_q6=some ⟨oc_q6,od_q6,.func (PySem.W.fnOf "__init__" "Search.__init__" (j6 a1K) (j3 a1K) (c7 a1K) .none kV_q6 dc_q6 pm_q6 an_q6 cd_q6 ct_q6),sl_q6⟩) (c_q6:PySem.W.codeIn K cd_q6 "Search.__init__" = true) (k_q6:PySem.W.keepIn K (.ref a_q6)=true) (fn_q6:PySem.W.isFn K (.ref a_q6)=true)
  (e_q7:PySem.W.findIn K (.ref C_Search) "begin" = some (some (.ref a_q7))) (l_q7:K.lookup a_q7=some ⟨oc_q7,od_q7,.func (PySem.W.fnOf "begin" "Search.begin" (j6 a2j) (j3 a2j) (c7 a2j) .none kV_q7 dc_q7 pm_q7 an_q7 cd_q7 ct_q7),sl_q7⟩) (c_q7:PySem.W.codeIn K cd_q7 "Search.begin" = true) (k_q7:PySem.W.keepIn K (.ref a_q7)=true) (fn_q7:PySem.W.isFn K (.ref a_q7)=true)
  (e_q12:PySem.W.findIn K (.ref C_Search) "settle" = some (some (.ref a_q12))) (l_q12:K.lookup a_q12=some ⟨oc_q12,od_q12,.func (PySem.W.fnOf "settle" "Search.settle" (j6 U6) (j3 U6) (c7 U6) .none kV_q12 dc_q12 pm_q12 an_q12 cd_q12 ct_q12),sl_q12⟩) (c_q12:PySem.W.codeIn K cd_q12 "Search.settle" = true) (k_q12:PySem.W.keepIn K (.ref a_q12)=true) (fn_q12:PySem.W.isFn K (.ref a_q12)=true)
  (e_q11:PySem.W.findIn K (.ref C_Search) "go_past" = some (some (.ref a_q11))) (l_q11:K.lookup a_q11=some ⟨oc_q11,od_q11,.func (PySem.W.fnOf "go_past" "Search.go_past" (j6 U0) (j3 U0) (c7 U0) .none kV_q11 dc_q11 pm_q11 an_q11 cd_q11 ct_q11),sl_q11⟩) (c_q11:PySem.W.codeIn K cd_q11 "Search.go_past" = true) (k_q11:PySem.W.keepIn K (.ref a_q11)=true) (fn_q11:PySem.W.isFn K (.ref a_q11)=true)
  (e_q10:PySem.W.findIn K (.ref C_Search) "go_in" = some (some (.ref a_q10))) (l_q10:K.lookup a_q10=some ⟨oc_q10,od_q10,.func (PySem.W.fnOf "go_in" "Search.go_in" (j6 T0) (j3 T0) (c7 T0) .none kV_q10 dc_q10 pm_q10 an_q10 cd_q10 ct_q10),sl_q10⟩) (c_q10:PySem.W.codeIn K cd_q10 "Search.go_in" = true) (k_q10:PySem.W.keepIn K (.ref a_q10)=true) (fn_q10:PySem.W.isFn K (.ref a_q10)=true)
  (e_q9:PySem.W.findIn K (.ref C_Search) "come_to_end" = some (some (.ref a_q9))) (l_q9:K.lookup a_q9=some ⟨oc_q9,od_q9,.func (PySem.W.fnOf "come_to_end" "Search.come_to_end" (j6 a1W) (j3 a1W) (c7 a1W) .none kV_q9 dc_q9 pm_q9 an_q9 cd_q9 ct_q9),sl_q9⟩) (c_q9:PySem.W.codeIn K cd_q9 "Search.come_to_end" = true) (k_q9:PySem.W.keepIn K (.ref a_q9)=true) (fn_q9:PySem.W.isFn K (.ref a_q9)=true)
  (e_q8:PySem.W.findIn K (.ref C_Search) "come_back" = some (some (.ref a_q8))) (l_q8:K.lookup a_q8=some ⟨oc_q8,od_q8,.func (PySem.W.fnOf "come_back" "Search.come_back" (j6 a2t) (j3 a2t) (c7 a2t) .none kV_q8 dc_q8 pm_q8 an_q8 cd_q8 ct_q8),sl_q8⟩) (c_q8:PySem.W.codeIn K cd_q8 "Search.come_back" = true) (k_q8:PySem.W.keepIn K (.ref a_q8)=true) (fn_q8:PySem.W.isFn K (.ref a_q8)=true)
  (z_enumerate:PySem.W.nsIn K mainGlobals "enumerate" = some none)
  (z_int:PySem.W.nsIn K mainGlobals "int" = some none)
  (z_len:PySem.W.nsIn K mainGlobals "len" = some none)
  (z_list:PySem.W.nsIn K mainGlobals "list" = some none)
  (z_max:PySem.W.nsIn K mainGlobals "max" = some none)
  (z_min:PySem.W.nsIn K mainGlobals "min" = some none)
  (z_range:PySem.W.nsIn K mainGlobals "range" = some none)
  (z_sum:PySem.W.nsIn K mainGlobals "sum" = some none)
  (z_tuple:PySem.W.nsIn K mainGlobals "tuple" = some none)
  {da_MOVE_TABLES:Addr} {t1 t2 t3 t4 t5 t6:Tok} {ep:Nat} (y_MOVE_TABLES:PySem.W.nsIn K mainGlobals "MOVE_TABLES" = some (some (.ref da_MOVE_TABLES))) (d_MOVE_TABLES:K.lookup da_MOVE_TABLES=some { cls:=.type "dict",data:=.dict #[{ hash:=PyData.keyHash w.params "step",key:=.str "step" t1,val:=.int 4 t2 },{ hash:=PyData.keyHash w.params "in",key:=.str "in" t3,val:=.int 5 t4 },{ hash:=PyData.keyHash w.params "over",key:=.str "over" t5,val:=.int 7 t6 }] ep })
  : ∃ fd:FuncData,(∀ (s:Shared) (v:Value),BindsTo s fd ⟨[v],[]⟩ [("_law_script",v)])/\∀ base:Heap,K.In base->base.Ns mainGlobals mg->l9 l.prog w K mg base CX0 9 fa fd ["_law_script"] (spD K 1 S_q43):=by
 have e:=hfa.symm.trans (PySem.W.mg_of X G e_q43);cases e;have CL_Offers:Cls K C_Offers:=⟨pg_Offers,hd_Offers,po_Offers,sa_Offers⟩
 have CL_Queue:Cls K C_Queue:=⟨pg_Queue,hd_Queue,po_Queue,sa_Queue⟩
 have CL_Search:Cls K C_Search:=⟨pg_Search,hd_Search,po_Search,sa_Search⟩
 have T:Txt l.prog w K mg:=⟨PySem.W.mg_none_of X G z_enumerate,PySem.W.mg_none_of X G z_int,PySem.W.mg_none_of X G z_len,PySem.W.mg_none_of X G z_list,PySem.W.mg_none_of X G z_max,PySem.W.mg_none_of X G z_min,PySem.W.mg_none_of X G z_range,PySem.W.mg_none_of X G z_sum,PySem.W.mg_none_of X G z_tuple,⟨_,PySem.W.mg_of X G y_MOVE_TABLES,a0J d_MOVE_TABLES⟩,⟨_,e_Search,CL_Search,n_calls⟩,⟨_,e_Search,CL_Search,n_chart⟩,⟨_,e_Search,CL_Search,n_ends⟩,⟨_,e_Search,CL_Search,n_found⟩,⟨_,e_Queue,CL_Queue,n_heap⟩,⟨_,e_Offers,CL_Offers,n_least⟩,⟨_,e_Search,CL_Search,n_offers⟩,⟨_,e_Queue,CL_Queue,n_puts⟩,⟨_,e_Offers,CL_Offers,n_queue⟩,⟨_,e_Search,CL_Search,n_rows⟩⟩
 have F_q43:=B2 (st:=T8) l_q43 c_q43 k_q43;have F_q3:=B2 (st:=a2C) l_q3 c_q3 k_q3;have F_q4:=B2 (st:=a2A) l_q4 c_q4 k_q4;have F_q5:=B2 (st:=a1S) l_q5 c_q5 k_q5;have F_q0:=B2 (st:=a2o) l_q0 c_q0 k_q0;have F_q1:=B2 (st:=a1X) l_q1 c_q1 k_q1;have F_q2:=B2 (st:=a2v) l_q2 c_q2 k_q2;have F_q6:=B2 (st:=a1K) l_q6 c_q6 k_q6;have F_q7:=B2 (st:=a2j) l_q7 c_q7 k_q7;have F_q12:=B2 (st:=U6) l_q12 c_q12 k_q12;have F_q11:=B2 (st:=U0) l_q11 c_q11 k_q11;have F_q10:=B2 (st:=T0) l_q10 c_q10 k_q10;have F_q9:=B2 (st:=a1W) l_q9 c_q9 k_q9;have F_q8:=B2 (st:=a2t) l_q8 c_q8 k_q8;have a9P:Binds K (PySem.W.fnOf "__init__" "Queue.__init__" (j6 a2C) (j3 a2C) (c7 a2C) .none kV_q3 dc_q3 pm_q3 an_q3 cd_q3 ct_q3) ["self"] []:=.all fun us hl=>ln1 hl fun _=>rfl;have a8z:Binds K (PySem.W.fnOf "put" "Queue.put" (j6 a2A) (j3 a2A) (c7 a2A) .none kV_q4 dc_q4 pm_q4 an_q4 cd_q4 ct_q4) ["self","cost","thing"] []:=.all fun us hl=>ln3 hl fun _ _ _=>rfl;have a8c:Binds K (PySem.W.fnOf "take" "Queue.take" (j6 a1S) (j3 a1S) (c7 a1S) .none kV_q5 dc_q5 pm_q5 an_q5 cd_q5 ct_q5) ["self"] []:=.all fun us hl=>ln1 hl fun _=>rfl;have a7X:Binds K (PySem.W.fnOf "__init__" "Offers.__init__" (j6 a2o) (j3 a2o) (c7 a2o) .none kV_q0 dc_q0 pm_q0 an_q0 cd_q0 ct_q0) ["self"] []:=.all fun us hl=>ln1 hl fun _=>rfl;have a9A:Binds K (PySem.W.fnOf "offer" "Offers.offer" (j6 a1X) (j3 a1X) (c7 a1X) .none kV_q1 dc_q1 pm_q1 an_q1 cd_q1 ct_q1) ["self","cost","key","row"] []:=.all fun us hl=>ln4 hl fun _ _ _ _=>rfl;have a7E:Binds K (PySem.W.fnOf "settled" "Offers.settled" (j6 a2v) (j3 a2v) (c7 a2v) .none kV_q2 dc_q2 pm_q2 an_q2 cd_q2 ct_q2) ["self"] []:=.all fun us hl=>ln1 hl fun _=>rfl;have b0p:Binds K (PySem.W.fnOf "__init__" "Search.__init__" (j6 a1K) (j3 a1K) (c7 a1K) .none kV_q6 dc_q6 pm_q6 an_q6 cd_q6 ct_q6) ["self","chart"] []:=.all fun us hl=>ln2 hl fun _ _=>rfl;have a8J:Binds K (PySem.W.fnOf "begin" "Search.begin" (j6 a2j) (j3 a2j) (c7 a2j) .none kV_q7 dc_q7 pm_q7 an_q7 cd_q7 ct_q7) ["self"] []:=.all fun us hl=>ln1 hl fun _=>rfl;have a3E:Binds K (PySem.W.fnOf "settle" "Search.settle" (j6 U6) (j3 U6) (c7 U6) .none kV_q12 dc_q12 pm_q12 an_q12 cd_q12 ct_q12) ["self","cost","key","row"] []:=.all fun us hl=>ln4 hl fun _ _ _ _=>rfl;have a2V:Binds K (PySem.W.fnOf "go_past" "Search.go_past" (j6 U0) (j3 U0) (c7 U0) .none kV_q11 dc_q11 pm_q11 an_q11 cd_q11 ct_q11) ["self","cost","key","k","n","edge"] []:=.all fun us hl=>ln6 hl fun _ _ _ _ _ _=>rfl;have a3C:Binds K (PySem.W.fnOf "go_in" "Search.go_in" (j6 T0) (j3 T0) (c7 T0) .none kV_q10 dc_q10 pm_q10 an_q10 cd_q10 ct_q10) ["self","cost","key","k","n","edge"] []:=.all fun us hl=>ln6 hl fun _ _ _ _ _ _=>rfl;have b0e:Binds K (PySem.W.fnOf "come_to_end" "Search.come_to_end" (j6 a1W) (j3 a1W) (c7 a1W) .none kV_q9 dc_q9 pm_q9 an_q9 cd_q9 ct_q9) ["self","cost","key","k"] []:=.all fun us hl=>ln4 hl fun _ _ _ _=>rfl;have a8n:Binds K (PySem.W.fnOf "come_back" "Search.come_back" (j6 a2t) (j3 a2t) (c7 a2t) .none kV_q8 dc_q8 pm_q8 an_q8 cd_q8 ct_q8) ["self","call","end"] []:=.all fun us hl=>ln3 hl fun _ _ _=>rfl;refine ⟨PySem.W.fnOf "law" "law" (j6 T8) (j3 T8) (c7 T8) .none kV_q43 dc_q43 pm_q43 an_q43 cd_q43 ct_q43,fun s v=>.of_eq rfl,fun base _ _=>?_⟩;have C_q39:=g_q39.cal X G (fun F=>b8O (base:=base) F T ) fun _ hl=>ln1 hl fun _=>rfl;have C_q38:=g_q38.cal X G (fun F=>b7t (base:=base) F T ) fun _ hl=>ln2 hl fun _ _=>rfl;have C_q50:=g_q50.cal X G (fun F=>b7E (base:=base) F T ) fun _ hl=>ln2 hl fun _ _=>rfl;have C_q37:=g_q37.cal X G (fun F=>b6f (base:=base) F T ) fun _ hl=>ln3 hl fun _ _ _=>rfl;have C_q51:=g_q51.cal X G (fun F=>b5r (base:=base) F T ) fun _ hl=>ln1 hl fun _=>rfl;have C_q31:=g_q31.cal X G (fun F=>b5w (base:=base) F T C_q39) fun _ hl=>ln3 hl fun _ _ _=>rfl;have C_q36:=g_q36.cal X G (fun F=>b6y (base:=base) F T C_q31) fun _ hl=>ln3 hl fun _ _ _=>rfl;have C_q32:=g_q32.cal X G (fun F=>b6t (base:=base) F T ) fun _ hl=>ln3 hl fun _ _ _=>rfl;have C_q30:=g_q30.cal X G (fun F=>b5y (base:=base) F T ) fun _ hl=>ln2 hl fun _ _=>rfl;have C_q45:=g_q45.cal X G (fun F=>b8s (base:=base) F T ) fun _ hl=>ln1 hl fun _=>rfl;have C_q49:=g_q49.cal X G (fun F=>b6L (base:=base) F T C_q50) fun _ hl=>ln3 hl fun _ _ _=>rfl;have C_q29:=g_q29.cal X G (fun F=>b8K (base:=base) F T C_q32) fun _ hl=>ln2 hl fun _ _=>rfl;have C_q35:=g_q35.cal X G (fun F=>b6C (base:=base) F T C_q32 C_q45 C_q36) fun _ hl=>ln3 hl fun _ _ _=>rfl;have C_q47:=g_q47.cal X G (fun F=>b8n (base:=base) F T C_q32 C_q36 C_q38 C_q31) fun _ hl=>ln3 hl fun _ _ _=>rfl;have C_q40:=g_q40.cal X G (fun F=>b7T (base:=base) F T C_q32 C_q45 C_q36) fun _ hl=>ln3 hl fun _ _ _=>rfl;have C_q33:=g_q33.cal X G (fun F=>b5I (base:=base) F T C_q30 C_q49 C_q47 C_q40 C_q29 C_q35) fun _ hl=>ln4 hl fun _ _ _ _=>rfl;have C_q34:=g_q34.cal X G (fun F=>b8z (base:=base) F T C_q33) fun _ hl=>ln3 hl fun _ _ _=>rfl;have C_q42:=g_q42.cal X G (fun F=>b7F (base:=base) F T ) fun _ hl=>ln2 hl fun _ _=>rfl;have M_Queue:W9 l.prog w K mg base 1 "Queue" ["self"] (spD K 1 a8e):=⟨C_Queue,a_q3,_,PySem.W.mg_of X G e_Queue,e_Queue,⟨mk_Queue,e_q3,fn_q3,kp_Queue⟩,b9v F_q3 T ,a9P⟩
 have C_q46:=g_q46.cal X G (fun F=>b7u (base:=base) F T C_q42) fun _ hl=>ln1 hl fun _=>rfl;have C_q44:=g_q44.cal X G (fun F=>b8H (base:=base) F T C_q42) fun _ hl=>ln2 hl fun _ _=>rfl;have C_q48:=g_q48.cal X G (fun F=>b7z (base:=base) F T C_q44 C_q42) fun _ hl=>ln1 hl fun _=>rfl;have C_q4:D8 l.prog w K mg base 3 "Queue" "put" ["self","cost","thing"] (spD K 3 a7U):=⟨C_Queue,a_q4,_,e_Queue,CL_Queue,⟨e_q4,fn_q4,k_q4⟩,c0r F_q4 T C_q46,a8z⟩
 have C_q5:D8 l.prog w K mg base 4 "Queue" "take" ["self"] (spD K 1 a3B):=⟨C_Queue,a_q5,_,e_Queue,CL_Queue,⟨e_q5,fn_q5,k_q5⟩,b9j F_q5 T C_q48,a8c⟩
 have M_Offers:W9 l.prog w K mg base 3 "Offers" ["self"] (spD K 1 b0R):=⟨C_Offers,a_q0,_,PySem.W.mg_of X G e_Offers,e_Offers,⟨mk_Offers,e_q0,fn_q0,kp_Offers⟩,b9B F_q0 T  M_Queue,a7X⟩
 have M_Search:W9 l.prog w K mg base 5 "Search" ["self","chart"] (spD K 2 a8X):=⟨C_Search,a_q6,_,PySem.W.mg_of X G e_Search,e_Search,⟨mk_Search,e_q6,fn_q6,kp_Search⟩,b9U F_q6 T  M_Offers,b0p⟩
 have C_q1:D8 l.prog w K mg base 4 "Offers" "offer" ["self","cost","key","row"] (spD K 4 a2k):=⟨C_Offers,a_q1,_,e_Offers,CL_Offers,⟨e_q1,fn_q1,k_q1⟩,c0M F_q1 T C_q4,a9A⟩
 have C_q2:D8 l.prog w K mg base 5 "Offers" "settled" ["self"] (spD K 1 a6e):=⟨C_Offers,a_q2,_,e_Offers,CL_Offers,⟨e_q2,fn_q2,k_q2⟩,c0g F_q2 T C_q5,a7E⟩
 have C_q7:D8 l.prog w K mg base 5 "Search" "begin" ["self"] (spD K 1 a9M):=⟨C_Search,a_q7,_,e_Search,CL_Search,⟨e_q7,fn_q7,k_q7⟩,c0C F_q7 T C_q1,a8J⟩
 have C_q11:D8 l.prog w K mg base 5 "Search" "go_past" ["self","cost","key","k","n","edge"] (spD K 6 a3c):=⟨C_Search,a_q11,_,e_Search,CL_Search,⟨e_q11,fn_q11,k_q11⟩,b7L F_q11 T C_q51 C_q39 C_q1,a2V⟩
 have C_q8:D8 l.prog w K mg base 5 "Search" "come_back" ["self","call","end"] (spD K 3 a4m):=⟨C_Search,a_q8,_,e_Search,CL_Search,⟨e_q8,fn_q8,k_q8⟩,b9Y F_q8 T C_q39 C_q1,a8n⟩
 have C_q10:D8 l.prog w K mg base 6 "Search" "go_in" ["self","cost","key","k","n","edge"] (spD K 6 a3o):=⟨C_Search,a_q10,_,e_Search,CL_Search,⟨e_q10,fn_q10,k_q10⟩,b8g F_q10 T C_q39 C_q8,a3C⟩
 have C_q9:D8 l.prog w K mg base 6 "Search" "come_to_end" ["self","cost","key","k"] (spD K 4 a9x):=⟨C_Search,a_q9,_,e_Search,CL_Search,⟨e_q9,fn_q9,k_q9⟩,b9R F_q9 T C_q8,b0e⟩
 have C_q12:D8 l.prog w K mg base 7 "Search" "settle" ["self","cost","key","row"] (spD K 4 a3n):=⟨C_Search,a_q12,_,e_Search,CL_Search,⟨e_q12,fn_q12,k_q12⟩,b6Z F_q12 T C_q38 C_q9 C_q37 C_q11 C_q10,a3E⟩
 have C_q41:=g_q41.cal X G (fun F=>b5G (base:=base) F T C_q7 C_q2 C_q12 M_Search) fun _ hl=>ln1 hl fun _=>rfl;have C_q26:=g_q26.cal X G (fun F=>b6D (base:=base) F T ) fun _ hl=>ln2 hl fun _ _=>rfl;have C_q15:=g_q15.cal X G (fun F=>b6B (base:=base) F T ) fun _ hl=>ln2 hl fun _ _=>rfl;have C_q25:=g_q25.cal X G (fun F=>b5O (base:=base) F T ) fun _ hl=>ln4 hl fun _ _ _ _=>rfl;have C_q18:=g_q18.cal X G (fun F=>b5F (base:=base) F T ) fun _ hl=>ln2 hl fun _ _=>rfl;have C_q20:=g_q20.cal X G (fun F=>b7Q (base:=base) F T ) fun _ hl=>ln1 hl fun _=>rfl;have C_q28:=g_q28.cal X G (fun F=>b8l (base:=base) F T C_q26 C_q25) fun _ hl=>ln5 hl fun _ _ _ _ _=>rfl;have C_q14:=g_q14.cal X G (fun F=>b5M (base:=base) F T C_q15) fun _ hl=>ln1 hl fun _=>rfl;have C_q23:=g_q23.cal X G (fun F=>b6W (base:=base) F T C_q18) fun _ hl=>ln3 hl fun _ _ _=>rfl;have C_q27:=g_q27.cal X G (fun F=>b6p (base:=base) F T C_q15 C_q26) fun _ hl=>ln1 hl fun _=>rfl;have C_q19:=g_q19.cal X G (fun F=>b7X (base:=base) F T C_q26 C_q28) fun _ hl=>ln4 hl fun _ _ _ _=>rfl;have C_q22:=g_q22.cal X G (fun F=>b5z (base:=base) F T C_q18 C_q23) fun _ hl=>ln2 hl fun _ _=>rfl;have C_q21:=g_q21.cal X G (fun F=>b5P (base:=base) F T C_q15 C_q18 C_q22) fun _ hl=>ln1 hl fun _=>rfl;have C_q16:=g_q16.cal X G (fun F=>b8Q (base:=base) F T C_q14 C_q21 C_q27 C_q15 C_q19) fun _ hl=>ln1 hl fun _=>rfl;have C_q17:=g_q17.cal X G (fun F=>b8d (base:=base) F T ) fun _ hl=>ln1 hl fun _=>rfl;have C_q13:=g_q13.cal X G (fun F=>b6P (base:=base) F T C_q20) fun _ hl=>ln4 hl fun _ _ _ _=>rfl;have C_q24:=g_q24.cal X G (fun F=>b8R (base:=base) F T C_q20 C_q13) fun _ hl=>ln3 hl fun _ _ _=>rfl;exact b6i F_q43 T C_q16 C_q17 C_q41 C_q34 C_q24
end K43
namespace PySem.W
open PySem PySem.Calls PyProof.Rows
section
def a4o(p:Program)(w:World)(n:Nat)(ann:Option Value):Nat->SharedT->Thread->Option SharedT
 |0,_,_=>none
 |m + 1,s,t=>match through t with
  |true=>some s
  |false=>match Fast.tw6613529449190102663 n ann t with
   |false=>none
   |true=>match Fast.tw10156331382660048174 (Fast.tw11892475500146522536 Fast.tw14364793385576792824) p w s t with
    |none=>none
    |some (s',t')=>a4o p w n ann m s' t'
 termination_by structural m=>m
theorem a5t{p:Program}{w:World}{n:Nat}{ann:Option Value}:∀ {m:Nat} {s s':SharedT} {t:Thread},a4o p w n ann m s t=some s'->topRun treeTable p w n ann m s.abs t=some s'.abs
 |0,_,_,_,h=>nomatch h
 |m + 1,s,s',t,h=>by
  unfold a4o at h;unfold topRun
  cases ht:through t with
  |true =>
   rw [ht] at h;exact congrArg (fun x=>some (SharedT.abs x)) (Option.some.inj h)
  |false =>
   rw [ht,<- Fast.te6613529449190102663,<- Fast.te10156331382660048174,<- Fast.te11892475500146522536,<- Fast.te14364793385576792824] at h
   cases ho:stepOk n ann t with
   |false=>rw [ho] at h;cases h
   |true =>
    rw [ho] at h
    cases hs:stepT (denote treeTable) p w s t with
    |none=>rw [hs] at h;cases h
    |some x =>
     obtain ⟨s₂,t₂⟩:=x;rw [hs] at h;show (match step (denote treeTable) p w s.abs t with | .go a b=>topRun treeTable p w n ann m a b | .halt _ _=>none)=_;rw [stepT_spec hs];exact a5t h
def c0U(P:Params):BT :=
 .node (boot_o_0 P)
  (.node (boot_o_1 P) (.node (boot_o_3 P) (.node (boot_o_7 P) .nil .nil) .nil) (.node (boot_o_5 P) (.node (boot_o_9 P) .nil .nil) .nil))
  (.node (boot_o_2 P) (.node (boot_o_4 P) (.node (boot_o_8 P) .nil .nil) .nil) (.node (boot_o_6 P) (.node (boot_o_10 P) .nil .nil) .nil))
def a2Z(P:Params)(os:OsState):SharedT:=⟨c0U P,11,(boot_heap P).life,Array.mk [],boot_drawn,boot_toks,os⟩
theorem a6A(P:Params)(os:OsState):(a2Z P os).abs=⟨boot_heap P,Array.mk [],boot_drawn,boot_toks,os⟩:=by kernel_rfl
theorem a6x(P:Params):((boot_heap P).isNs mainGlobals,(boot_heap P).objs.size,(boot_heap P).nsMap mainGlobals "__annotations__")=(true,11,some (.ref 6)):=by kernel_rfl
def HL{α:Type}(p q:Program)(loose:List Str)(Xt:Shared->Bool)(Yf:Shared->α)(Ya:World->α)(M:Nat)(w:World):Prop :=
 ∀ os:OsState,(a4o p w 11 (some (.ref 6)) M (a2Z w.params os) (topStub p)).map (fun s =>
  ((staticsOk (Fast.tw5923862056798008813 p.main.body) (boot_heap w.params) s.abs.heap && namesBound p s.abs.heap && gensDone s.abs && laidKept (boot_heap w.params) s.abs.heap),
   Fast.tw4187177175401517315 q loose (Fast.tw5923862056798008813 p.main.body) Xt true s.abs,Yf s.abs))=some (true,openGood q loose,Ya w)
theorem b2A{p q:Program}{loose:List Str}{Xt:Shared->Bool}{α:Type}{Yf:Shared->α}{Ya:World->α}{N:Nat}
  (e:opening p=plainProg p.main.scope.names) (f:∀ s,fenceModules? p s=some s) (le:Nat.ble 600 N=true) (h:∀ w,HL p q loose Xt Yf Ya N w) :
  LeftO p q loose Xt Yf Ya N:=by
 intro w;obtain ⟨⟨hp,gs,d,k,os⟩,e1,e2⟩:=Option.map_eq_some_iff.mp (boot_open e le f w);obtain ⟨rfl,rfl,rfl,rfl⟩:hp=boot_heap w.params/\gs=Array.mk []/\d=boot_drawn/\k=boot_toks:=by simpa using e2
 obtain ⟨z1,z2,z3⟩:_/\_/\_:=by simpa only [Prod.mk.injEq] using a6x w.params
 obtain ⟨s,h1,h2⟩:=Option.map_eq_some_iff.mp (h w os);rw [<- Fast.te4187177175401517315,<- Fast.te5923862056798008813] at h2;obtain ⟨l1,l2,l3⟩:_/\_/\_:=by simpa only [Prod.mk.injEq] using h2
 have r:=a5t h1;rw [a6A] at r
 have t:topFrom treeTable p w N ⟨boot_heap w.params,Array.mk [],boot_drawn,boot_toks,os⟩=some s.abs:=by
  unfold topFrom;dsimp only;rw [z1,z2,z3,r];show (match staticsOk (importedModules p.main.body) (boot_heap w.params) s.abs.heap && namesBound p s.abs.heap && gensDone s.abs && laidKept (boot_heap w.params) s.abs.heap with | true=>_ | false=>_)=_;rw [l1]
 unfold openEnds;rw [e1];show (topFrom treeTable p w N _).map _=_;rw [t];exact congrArg some (Prod.ext l2 l3)
theorem a6J{r:OpenRow}{q:Program}{loose:List Str}{Xt:Shared->Bool}{XP:(Str->Option Value)->Heap->Prop}{α:Type}{Yf:Shared->α}{Ya:World->α}{YP:World->Heap->Prop}{d:DefRec}{kwd:List (Str×Expr)}{N:Nat}
  (hY:∀ w s,Yf s=Ya w->YP w s.heap) (hYk:∀ w h h',YP w h->(∀ b o,h.get? b=some o->h'.get? b=some o)->YP w h')
  (hX:∀ s,Xt s=true->XP (s.heap.nsMap mainGlobals) s.heap) (hXk:∀ mg h h',XP mg h->(∀ b o,h.get? b=some o->h'.get? b=some o)->XP mg h')
  (hdef:defOf q r.name=some (d,kwd)) (hp:r.prog.theDef r.name=some (d.params,d.body,d.scope)) (hk:kwWritten? d.params.kwonlyargs d.params.kw_defaults=some kwd)
  (hRf:∀ s,Xt s=true->RecFacts r.records s.heap) (hwr:(!r.writes || r.records.isEmpty)=true)
  (k1:r.wellSaid=true) (ok:(chainsOk q && opensWell r.prog && (frees r.toRowW && r.within.isEmpty))=true) (hb:r.prog.bare)
  (e:opening r.prog=plainProg r.prog.main.scope.names) (f:∀ s,fenceModules? r.prog s=some s) (le:Nat.ble 600 N=true)
  (hw:r.toRowW.promised) (x:(∀ w,HL r.prog q loose Xt Yf Ya N w)/\WalkO q loose XP YP r.toRowW d kwd fun f vs=>PySem.call f vs):r.Holds :=
 holds_open (b2A e f le x.1) hY hYk hX hXk hdef hp hk hRf hwr k1 ok hb hw x.2
def sideP{P:World->Prop}{B C:Prop}(_:(∀ w,P w)/\B->C):World->Prop:=P
section
variable {α:Type} {p q:Program} {loose:List Str} {Xt:Shared->Bool} {Yf:Shared->α} {Ya:World->α} {M:Nat}
def b9V{B C:Prop}(_:(∀ w,HL p q loose Xt Yf Ya M w)/\B->C)(w:World):Prop:=∀ os:OsState,(a4o p w 11 (some (.ref 6)) M (a2Z w.params os) (topStub p)).map (fun s=>staticsOk (Fast.tw5923862056798008813 p.main.body) (boot_heap w.params) s.abs.heap && namesBound p s.abs.heap && gensDone s.abs && laidKept (boot_heap w.params) s.abs.heap)=some true
def b9J{B C:Prop}(_:(∀ w,HL p q loose Xt Yf Ya M w)/\B->C)(w:World):Prop:=∀ os:OsState,(a4o p w 11 (some (.ref 6)) M (a2Z w.params os) (topStub p)).map (fun s=>Fast.tw4187177175401517315 q loose (Fast.tw5923862056798008813 p.main.body) Xt true s.abs)=some (openGood q loose)
def b9E{B C:Prop}(_:(∀ w,HL p q loose Xt Yf Ya M w)/\B->C)(w:World):Prop:=∀ os:OsState,(a4o p w 11 (some (.ref 6)) M (a2Z w.params os) (topStub p)).map (fun s=>Yf s.abs)=some (Ya w)
theorem c2R{B C:Prop}{o:(∀ w,HL p q loose Xt Yf Ya M w)/\B->C}{w:World}(a:b9V o w)(b:b9J o w)(c:b9E o w):HL p q loose Xt Yf Ya M w:=fun os=>by
 obtain ⟨s,h1,h2⟩:=Option.map_eq_some_iff.mp (a os);obtain ⟨s2,k1,k2⟩:=Option.map_eq_some_iff.mp (b os);obtain ⟨s3,l1,l2⟩:=Option.map_eq_some_iff.mp (c os);rw [h1] at k1 l1
 cases k1;cases l1;rw [h1];exact congrArg some (Prod.ext h2 (Prod.ext k2 l2))
end
end
end PySem.W
namespace K43
def qv:PySem.Program:=PySem.W.view PySem.Challenge.pw_callmatch_k43_whole_inner_costs_are_shut [0,2,3,5,6,8,9,10,11,12,13,15,16,17,18,19,20,22,23,24,25,26,27,28,29,30,31,33,34,36,37,38,39,40,41,42,43,44,45,46,47,48,49,50,51,52]
open PySem.W in
local macro_rules
 |`(tactic| o_head $H)=>`(tactic|
   refine a6J (q:=qv) (loose:= ["MOVE_TABLES"])
     (Xt:=fun s=>xlAt qv [] s && recOk (RowW.records (OpenRow.toRowW (OpenLaw.row PySem.Challenge.rw_callmatch_k43_whole_inner_costs_are_shut))) s)
     (XP:=XL qv []) (Yf:=Hook.obs $H) (Ya:=Hook.val $H)
     (YP:=Hook.says $H) (N:=20000) (Hook.of $H) (Hook.keeps $H)
     (fun s e=>xl_of s (Bool.and_eq_true_iff.mp e).1) XL.keeps (by rfl) (by rfl) (by rfl)
     (fun s e=>recFacts_of (Bool.and_eq_true_iff.mp e).2) (by rfl) (by assumption)
     (by decide +kernel) ⟨rfl,rfl,rfl,rfl,rfl,by decide +kernel⟩ (by kernel_rfl) (fun _=>by kernel_rfl) (by decide) ?hw ?hc)
open_top opened for PySem.Challenge.rw_callmatch_k43_whole_inner_costs_are_shut
set_option maxHeartbeats 0 in
theorem side_false(w:PySem.World):PySem.W.sideP opened (w.withFollow "special-get-raises" false):=by
 intro os
 kernel_rfl
set_option maxHeartbeats 0 in
theorem side_true(w:PySem.World):PySem.W.sideP opened (w.withFollow "special-get-raises" true):=by
 intro os
 kernel_rfl
end K43
open PySem PySem.W PyProof.Rows
local macro_rules | `(tactic| right) => `(tactic| (refine' K43.gt_mk ?e ?l ?c ?k; (case e => k_is); (case l => k_is); (case c => k_is); (case k => k_is)))
set_option maxRecDepth 100000 in
set_option maxHeartbeats 0 in
theorem PySem.Challenge.cw_callmatch_k43_whole_inner_costs_are_shut_holds : PySem.Challenge.rw_callmatch_k43_whole_inner_costs_are_shut.Holds := by
  refine K43.opened ⟨PySem.W.byRow2 (P := PySem.W.sideP K43.opened) "special-get-raises" K43.side_false K43.side_true, ?_⟩
  k_fill
  refine DL.walkD (l := PySem.Challenge.rw_callmatch_k43_whole_inner_costs_are_shut) (n := 63) (k := 9) (S := K43.S_q43) (x := "_law_script") rfl (by decide) rfl ⟨rfl, by decide, by decide⟩ (fun w h Y => PySem.W.kIn_of Y) ?F K43.law_true
  case F =>
    intro w mg fa h KX G hmg
    refine' K43.all_mk KX G hmg ?e_Offers ?pg_Offers ?hd_Offers ?po_Offers ?sa_Offers ?mk_Offers ?kp_Offers ?e_Queue ?pg_Queue ?hd_Queue ?po_Queue ?sa_Queue ?mk_Queue ?kp_Queue ?e_Search ?pg_Search ?hd_Search ?po_Search ?sa_Search ?mk_Search ?kp_Search ?n_calls ?n_chart ?n_ends ?n_found ?n_heap ?n_least ?n_offers ?n_puts ?n_queue ?n_rows ?g_q39 ?g_q31 ?g_q38 ?g_q50 ?g_q37 ?g_q51 ?g_q36 ?g_q42 ?g_q46 ?g_q48 ?g_q44 ?g_q34 ?g_q33 ?g_q32 ?g_q30 ?g_q49 ?g_q35 ?g_q47 ?g_q40 ?g_q29 ?g_q45 ?g_q41 ?g_q26 ?g_q15 ?g_q25 ?g_q28 ?g_q27 ?g_q19 ?g_q18 ?g_q14 ?g_q23 ?g_q22 ?g_q21 ?g_q16 ?g_q17 ?g_q20 ?g_q13 ?g_q24 ?e_q43 ?l_q43 ?c_q43 ?k_q43 ?e_q3 ?l_q3 ?c_q3 ?k_q3 ?fn_q3 ?e_q4 ?l_q4 ?c_q4 ?k_q4 ?fn_q4 ?e_q5 ?l_q5 ?c_q5 ?k_q5 ?fn_q5 ?e_q0 ?l_q0 ?c_q0 ?k_q0 ?fn_q0 ?e_q1 ?l_q1 ?c_q1 ?k_q1 ?fn_q1 ?e_q2 ?l_q2 ?c_q2 ?k_q2 ?fn_q2 ?e_q6 ?l_q6 ?c_q6 ?k_q6 ?fn_q6 ?e_q7 ?l_q7 ?c_q7 ?k_q7 ?fn_q7 ?e_q12 ?l_q12 ?c_q12 ?k_q12 ?fn_q12 ?e_q11 ?l_q11 ?c_q11 ?k_q11 ?fn_q11 ?e_q10 ?l_q10 ?c_q10 ?k_q10 ?fn_q10 ?e_q9 ?l_q9 ?c_q9 ?k_q9 ?fn_q9 ?e_q8 ?l_q8 ?c_q8 ?k_q8 ?fn_q8 ?z_enumerate ?z_int ?z_len ?z_list ?z_max ?z_min ?z_range ?z_sum ?z_tuple ?y_MOVE_TABLES ?d_MOVE_TABLES
    (case e_Offers => k_is)
    (case pg_Offers => k_is)
    (case hd_Offers => k_is)
    (case po_Offers => k_is)
    (case sa_Offers => k_is)
    (case mk_Offers => k_is)
    (case kp_Offers => k_is)
    (case e_Queue => k_is)
    (case pg_Queue => k_is)
    (case hd_Queue => k_is)
    (case po_Queue => k_is)
    (case sa_Queue => k_is)
    (case mk_Queue => k_is)
    (case kp_Queue => k_is)
    (case e_Search => k_is)
    (case pg_Search => k_is)
    (case hd_Search => k_is)
    (case po_Search => k_is)
    (case sa_Search => k_is)
    (case mk_Search => k_is)
    (case kp_Search => k_is)
    (case n_calls => k_is)
    (case n_chart => k_is)
    (case n_ends => k_is)
    (case n_found => k_is)
    (case n_heap => k_is)
    (case n_least => k_is)
    (case n_offers => k_is)
    (case n_puts => k_is)
    (case n_queue => k_is)
    (case n_rows => k_is)
    (case g_q39 => right)
    (case g_q31 => right)
    (case g_q38 => right)
    (case g_q50 => right)
    (case g_q37 => right)
    (case g_q51 => right)
    (case g_q36 => right)
    (case g_q42 => right)
    (case g_q46 => right)
    (case g_q48 => right)
    (case g_q44 => right)
    (case g_q34 => right)
    (case g_q33 => right)
    (case g_q32 => right)
    (case g_q30 => right)
    (case g_q49 => right)
    (case g_q35 => right)
    (case g_q47 => right)
    (case g_q40 => right)
    (case g_q29 => right)
    (case g_q45 => right)
    (case g_q41 => right)
    (case g_q26 => right)
    (case g_q15 => right)
    (case g_q25 => right)
    (case g_q28 => right)
    (case g_q27 => right)
    (case g_q19 => right)
    (case g_q18 => right)
    (case g_q14 => right)
    (case g_q23 => right)
    (case g_q22 => right)
    (case g_q21 => right)
    (case g_q16 => right)
    (case g_q17 => right)
    (case g_q20 => right)
    (case g_q13 => right)
    (case g_q24 => right)
    (case e_q43 => k_is)
    (case l_q43 => k_is)
    (case c_q43 => k_is)
    (case k_q43 => k_is)
    (case e_q3 => k_is)
    (case l_q3 => k_is)
    (case c_q3 => k_is)
    (case k_q3 => k_is)
    (case fn_q3 => k_is)
    (case e_q4 => k_is)
    (case l_q4 => k_is)
    (case c_q4 => k_is)
    (case k_q4 => k_is)
    (case fn_q4 => k_is)
    (case e_q5 => k_is)
    (case l_q5 => k_is)
    (case c_q5 => k_is)
    (case k_q5 => k_is)
    (case fn_q5 => k_is)
    (case e_q0 => k_is)
    (case l_q0 => k_is)
    (case c_q0 => k_is)
    (case k_q0 => k_is)
    (case fn_q0 => k_is)
    (case e_q1 => k_is)
    (case l_q1 => k_is)
    (case c_q1 => k_is)
    (case k_q1 => k_is)
    (case fn_q1 => k_is)
    (case e_q2 => k_is)
    (case l_q2 => k_is)
    (case c_q2 => k_is)
    (case k_q2 => k_is)
    (case fn_q2 => k_is)
    (case e_q6 => k_is)
    (case l_q6 => k_is)
    (case c_q6 => k_is)
    (case k_q6 => k_is)
    (case fn_q6 => k_is)
    (case e_q7 => k_is)
    (case l_q7 => k_is)
    (case c_q7 => k_is)
    (case k_q7 => k_is)
    (case fn_q7 => k_is)
    (case e_q12 => k_is)
    (case l_q12 => k_is)
    (case c_q12 => k_is)
    (case k_q12 => k_is)
    (case fn_q12 => k_is)
    (case e_q11 => k_is)
    (case l_q11 => k_is)
    (case c_q11 => k_is)
    (case k_q11 => k_is)
    (case fn_q11 => k_is)
    (case e_q10 => k_is)
    (case l_q10 => k_is)
    (case c_q10 => k_is)
    (case k_q10 => k_is)
    (case fn_q10 => k_is)
    (case e_q9 => k_is)
    (case l_q9 => k_is)
    (case c_q9 => k_is)
    (case k_q9 => k_is)
    (case fn_q9 => k_is)
    (case e_q8 => k_is)
    (case l_q8 => k_is)
    (case c_q8 => k_is)
    (case k_q8 => k_is)
    (case fn_q8 => k_is)
    (case z_enumerate => k_is)
    (case z_int => k_is)
    (case z_len => k_is)
    (case z_list => k_is)
    (case z_max => k_is)
    (case z_min => k_is)
    (case z_range => k_is)
    (case z_sum => k_is)
    (case z_tuple => k_is)
    (case y_MOVE_TABLES => k_is)
    (case d_MOVE_TABLES => k_is)
#print axioms PySem.Challenge.cw_callmatch_k43_whole_inner_costs_are_shut_holds
