import PyProof.Rows.All
import Wide.All
import OpenK.AllK
import Wide.FinOn
import Lean
import PyProof.EqAt
import PyProof.EqKinds
import PyProof.TupleCall
import PyProof.EqLayable
import PyProof.P3In
import PyProof.Draws
import PyProof.EnumMake
import PyProof.CompFree
import PyProof.CompUse
import KE.KRevIter
import PyProof.DictIter
import PyProof.ZipIter
import PyProof.ListMulRoad
import PyProof.ConsumeWalk
import PyProof.ListRange
import PyProof.Rows.Range3
import PyProof.AutoListH
import PyProof.ListNew
import PyProof.RulesAs
import PyProof.StationsW
import PyProof.ExcClass3
import PyProof.ExcInit
import PyProof.InstStoreFacts
import PyProof.ExcBaseAll.ValueError
import OpenK.KOwn
import PyProof.ExcArgsOwn
import PyProof.ExcAttrAll.ValueError
import KE.KTryMore
import PyProof.Rows.CatchBare
import PySem.Challenge.RW_callmatch_k33_whole_unrolled
set_option Elab.async false
set_option linter.all false
set_option maxRecDepth 100000
set_option genSizeOfSpec false
set_option compiler.extract_closed false
set_option maxHeartbeats 4000000
local macro_rules | `(tactic| trivial) => `(tactic| first | exact .inl rfl | exact .inr (.inl rfl) | exact .inr (.inr rfl) | exact .inr rfl | assumption)
noncomputable section
namespace L2
open PySem PySem.Spec PyProof.Rows
abbrev Key:=Sum Int Str
def Y1:Key->Value->Bool
 |.inl k,v=>Value.isInt k v
 |.inr x,v=>Value.isStrOf x v
def b9V(w:World):Key->Int
 |.inl k=>hashInt k
 |.inr x=>hashStr w x
theorem A6:∀ {k:Key} {v:Value},Y1 k v=true->(∃ i t,k=Sum.inl i/\v=Value.int i t)\/(∃ x t,k=Sum.inr x/\v=Value.str x t)
 |.inl i,v,h=>by
  obtain ⟨t,e⟩:=Value.isInt_shape (k:=i) (v:=v) h;exact .inl ⟨i,t,rfl,e⟩
 |.inr x,v,h=>by
  obtain ⟨t,e⟩:=Value.isStrOf_shape (x:=x) (v:=v) h;exact .inr ⟨x,t,rfl,e⟩
theorem a5r(i:Int)(t:Tok):Y1 (.inl i) (.int i t)=true:=by simp [Y1,Value.isInt]
theorem a5G(x:Str)(t:Tok):Y1 (.inr x) (.str x t)=true:=by simp [Y1,Value.isStrOf]
theorem b5u(a b:Int):decide ((Sum.inl a:Key)=Sum.inl b)=(a == b):=by
 by_cases e:a=b
 ·subst e;simp
 ·have h:¬ (Sum.inl a:Key)=Sum.inl b:=fun q=>e (Sum.inl.inj q);rw [decide_eq_false h];exact (beq_eq_false_iff_ne.mpr e).symm
theorem b4f(a b:Str):decide ((Sum.inr a:Key)=Sum.inr b)=decide (a=b):=by
 by_cases e:a=b
 ·subst e;simp
 ·have h:¬ (Sum.inr a:Key)=Sum.inr b:=fun q=>e (Sum.inr.inj q);rw [decide_eq_false h,decide_eq_false e]
theorem b5i(a:Int)(b:Str):decide ((Sum.inl a:Key)=Sum.inr b)=false:=decide_eq_false (fun q=>nomatch q)
theorem b5n(a:Str)(b:Int):decide ((Sum.inr a:Key)=Sum.inl b)=false:=decide_eq_false (fun q=>nomatch q)
def J3(prog:Program)(w:World):PySem.KeyKind prog w Key where
 is:=Y1
 hash:=b9V w
 inj:=fun v a b ha hb=>by
  rcases A6 ha with ⟨i,t,rfl,rfl⟩ | ⟨x,t,rfl,rfl⟩
  ·rcases A6 hb with ⟨j,u,rfl,e⟩ | ⟨y,u,rfl,e⟩
   ·injection e with e1 _;rw [e1]
   ·exact nomatch e
  ·rcases A6 hb with ⟨j,u,rfl,e⟩ | ⟨y,u,rfl,e⟩
   ·exact nomatch e
   ·injection e with e1 _;rw [e1]
 byValue:=fun k v h=>by
  rcases A6 h with ⟨i,t,rfl,rfl⟩ | ⟨x,t,rfl,rfl⟩ <;> rfl
 pyHash:=fun hv h=>by
  rcases A6 hv with ⟨i,t,rfl,rfl⟩ | ⟨x,t,rfl,rfl⟩
  ·exact wpAny_pyHash_int h
  ·exact wpAny_pyHash_str h
 eqBool:=fun hu hv h=>by
  rcases A6 hu with ⟨i,t,rfl,rfl⟩ | ⟨x,t,rfl,rfl⟩
  ·rcases A6 hv with ⟨j,u,rfl,rfl⟩ | ⟨y,u,rfl,rfl⟩
   ·rw [b5u] at h;exact wpAny_eqBool_int h
   ·rw [b5i] at h;exact SeqAt.EqAt.int_str i t y u _ _ _ _ h
  ·rcases A6 hv with ⟨j,u,rfl,rfl⟩ | ⟨y,u,rfl,rfl⟩
   ·rw [b5n] at h;exact SeqAt.EqAt.str_int x t j u _ _ _ _ h
   ·rw [b4f] at h;exact wpAny_eqBool_str h
 «strs»:=fun k x t v h=>by
  rcases A6 h with ⟨i,u,rfl,e⟩ | ⟨y,u,rfl,e⟩
  ·exact nomatch e
  ·injection e with e1 _
   subst e1
   cases v <;> rfl
theorem a2g(prog:Program)(w:World)(i:Int)(t:Tok):(J3 prog w).is (.inl i) (.int i t)=true:=a5r i t
theorem a2C(prog:Program)(w:World)(x:Str)(t:Tok):(J3 prog w).is (.inr x) (.str x t)=true:=a5G x t
end L2
namespace L2
open PySem PySem.Spec PyProof.Rows
inductive V where
 |non | bl (b:Bool) | int (i:Int) | str (x:Str) | byt (b:Array UInt8) | flt (b:UInt64) | ref (a:Addr) | ty (n:String)
 deriving DecidableEq
def RelV:V->Value->Prop
 |.non,u=>u=Value.none
 |.bl b,u=>u=Value.bool b
 |.int i,u=>∃ t,u=Value.int i t
 |.str x,u=>∃ t,u=Value.str x t
 |.byt b,u=>∃ t,u=Value.bytes b t
 |.flt b,u=>∃ t,u=Value.float b t
 |.ref a,u=>u=Value.ref a
 |.ty n,u=>u=Value.type n
abbrev Vals:List V->List Value->Prop:=Paired RelV
theorem Vals.length{xs:List V}{us:List Value}(r:Vals xs us):xs.length=us.length:=Paired.length r
theorem Vals.get:∀ {xs:List V} {us:List Value} {i:Nat} {x:V},Vals xs us->xs[i]?=some x->∃ u,us[i]?=some u/\RelV x u
 |_,_,_,_,.nil,e=>by simp at e
 |_,_,0,_,.cons r _,e=>by simp at e;subst e;exact ⟨_,rfl,r⟩
 |_,_,i + 1,x,.cons _ t,e=>by
  obtain ⟨u,h1,h2⟩:=Vals.get (i:=i) (x:=x) t (by simpa using e);exact ⟨u,by simpa using h1,h2⟩
theorem Vals.set{x:V}{u:Value}(r:RelV x u):∀ {xs:List V} {us:List Value} (i:Nat),Vals xs us->Vals (xs.set i x) (us.set i u)
 |_,_,_,.nil=>.nil
 |_,_,0,.cons _ t=>.cons r t
 |_,_,i + 1,.cons q t=>.cons q (Vals.set r i t)
theorem Vals.append:∀ {xs ys:List V} {us ws:List Value},Vals xs us->Vals ys ws->Vals (xs ++ ys) (us ++ ws)
 |_,_,_,_,.nil,s=>s
 |_,_,_,_,.cons r t,s=>.cons r (Vals.append t s)
theorem Vals.take:∀ {xs:List V} {us:List Value} (n:Nat),Vals xs us->Vals (xs.take n) (us.take n)
 |_,_,0,_=>.nil
 |_,_,_ + 1,.nil=>.nil
 |_,_,n + 1,.cons r t=>.cons r (Vals.take n t)
theorem Vals.drop:∀ {xs:List V} {us:List Value} (n:Nat),Vals xs us->Vals (xs.drop n) (us.drop n)
 |_,_,0,r=>r
 |_,_,_ + 1,.nil=>.nil
 |_,_,n + 1,.cons _ t=>Vals.drop n t
def RelO:Option V->Option Value->Prop
 |some v,some u=>RelV v u
 |none,none=>True
 |_,_=>False
def KV{κ:Type}:List (κ×V)->List (κ×Value)->Prop:=Paired fun (p:κ×V) (q:κ×Value)=>p.1=q.1/\RelV p.2 q.2
def kV:Key->V
 |.inl i=>.int i
 |.inr x=>.str x
inductive HO where
 |lst (xs:List V)
 |tup (xs:List V)
 |dK (kvs:List (Key×V)) | dT (kvs:List (List Key×V))
 |set (S:Int->Bool) (n:Nat)
 |ins (C dx:Addr) (fs:List (Str×V))
 |own (x:Addr)
 |xd (fs:List (Str×V))
 |met (f x:Addr)
 |rng (lo hi:Int)
 |frz (o:Obj) (u:HO)
 |tbl (ps:Array Value)
 |ext (φ:Heap->Prop)
abbrev Hp:=Addr->Option HO
def upd(H:Hp)(a:Addr)(o:HO):Hp:=fun b=>if b=a then some o else H b
theorem m8{H:Hp}{a:Addr}{o:HO}:upd H a o a=some o:=by unfold upd;rw [if_pos rfl]
theorem p9{H:Hp}{a b:Addr}{o:HO}(h:b ≠ a):upd H a o b=H b:=by unfold upd;rw [if_neg h]
theorem F9{H:Hp}{a b:Addr}{o:HO}(h:H a=some o)(h':H b=none):a ≠ b:=by
 intro e;subst e;rw [h] at h';cases h'
section
variable (P:Program) (w:World)
def ObjOk(H:Hp)(h:Heap)(a:Addr):HO->Prop
 |.lst xs=>xs.length <= sizeLine/\∃ (its:List Value) (n:Nat),Vals xs its/\h.get? a=some { cls:=.type "list",data:=.seq its.toArray n }
 |.tup xs=>xs.length <= sizeLine/\∃ its:List Value,Vals xs its/\IsTup h a its.toArray
 |.dK kvs=>kvs.length <= sizeLine/\(a == sysModules)=false/\∃ vs,KV kvs vs/\h.DictOf (J3 P w) a vs
 |.dT kvs=>kvs.length <= sizeLine/\(a == sysModules)=false/\∃ xs:List (List Key×Addr×Value),
   Paired (fun (p:List Key×V) (q:List Key×Addr×Value)=>p.1=q.1/\H q.2.1=some (.tup (p.1.map kV))/\RelV p.2 q.2.2) kvs xs /\
   ∃ o es ep,h.get? a=some o/\o.ExactDict/\o.data = .dict es ep/\es.toList=xs.map (entryOfKey (tupleKind (J3 P w)))/\(xs.map (·.1)).Nodup
 |.set S n=>h.SetOf (intKind P w) a S n
 |.ins C dx fs=>H dx=some (.own a)/\fs.length <= 1000/\dx ≠ a/\h.get? a=some (PySem.W.instObj C dx) /\
   ∃ mA,h.Ns1 dx mA/\(∀ f,RelO (fs.lookup f) (mA f))/\PySem.Within mA (fs.map (·.1))
 |.own _=>∃ o,h.get? a=some o
 |.xd fs=>∃ mA,h.Ns1 a mA/\∀ f,RelO (fs.lookup f) (mA f)
 |.rng lo hi=>∃ t u v,h.get? a=some { cls:=.type "range",data:=.fields #[.int lo t,.int hi u,.int 1 v] }
 |.frz o u=>h.get? a=some o/\ObjOk H h a u
 |.tbl ps=>h.get? a=some { cls:=.none,data:=.fields ps }
 |.met f x=>h.get? a=some (PySem.W.methodObj (.ref f) (.ref x))
 |.ext φ=>φ h/\(∃ o,h.get? a=some o)/\∀ h1 h2:Heap,φ h1->(∀ o,h1.get? a=some o->h2.get? a=some o)->φ h2
def HOk(H:Hp)(h:Heap):Prop:=∀ a o,H a=some o->ObjOk P w H h a o
end
section
variable {P:Program} {w:World} {H H':Hp} {h h':Heap} {a:Addr} {o:HO}
theorem ObjOk.lt(x:ObjOk P w H h a o):a < h.objs.size:=by
 cases o with
 |lst xs=>obtain ⟨_,_,_,_,e⟩:=x;exact Heap.lt_size e
 |tup xs=>obtain ⟨_,_,_,p⟩:=x;exact p.lt
 |dK kvs=>obtain ⟨_,_,_,_,o,_,_,e,_⟩:=x;exact Heap.lt_size e
 |dT kvs=>obtain ⟨_,_,_,_,o,_,_,e,_⟩:=x;exact Heap.lt_size e
 |set S n=>obtain ⟨o,_,_,_,e,_⟩:=x;exact Heap.lt_size e
 |ins C dx fs=>obtain ⟨_,_,_,e,_⟩:=x;exact Heap.lt_size e
 |own y=>obtain ⟨_,e⟩:=x;exact Heap.lt_size e
 |xd fs=>obtain ⟨_,⟨_,_,_,e,_⟩,_⟩:=x;exact Heap.lt_size e
 |rng lo hi=>obtain ⟨_,_,_,e⟩:=x;exact Heap.lt_size e
 |frz ob u=>obtain ⟨e,_⟩:=x;exact Heap.lt_size e
 |tbl ps=>exact Heap.lt_size (show h.get? a=some _ from x)
 |met f y=>exact Heap.lt_size (show h.get? a=some _ from x)
 |ext φ=>obtain ⟨_,⟨_,e⟩,_⟩:=x;exact Heap.lt_size e
theorem Paired.mapP{α β:Type}{F G:α->β->Prop}{l₁:List α}{l₂:List β}(h:Paired F l₁ l₂)(f:∀ a b,F a b->G a b):Paired G l₁ l₂:=by
 induction h with
 |nil=>exact .nil
 |cons r _ ih=>exact .cons (f _ _ r) ih
theorem ObjOk.stay(x:ObjOk P w H h a o)(k:∀ b u,(b=a\/H b=some (.own a))->h.get? b=some u->h'.get? b=some u)
  (ho:∀ b,H b=some (.own a)->H' b=some (.own a)) (ht:∀ b xs,H b=some (.tup xs)->H' b=some (.tup xs)):ObjOk P w H' h' a o:=by
 induction o with
 |lst xs=>obtain ⟨z,its,n,r,e⟩:=x;exact ⟨z,its,n,r,k _ _ (.inl rfl) e⟩
 |tup xs=>obtain ⟨z,its,r,ob,e,c⟩:=x;exact ⟨z,its,r,ob,k _ _ (.inl rfl) e,c⟩
 |dK kvs=>obtain ⟨z,y,vs,r,ob,es,ep,e,c⟩:=x;exact ⟨z,y,vs,r,ob,es,ep,k _ _ (.inl rfl) e,c⟩
 |dT kvs =>
  obtain ⟨z,y,xs,r,ob,es,ep,e,c⟩:=x;exact ⟨z,y,xs,Paired.mapP r fun p q z=>⟨z.1,ht _ _ z.2.1,z.2.2⟩,ob,es,ep,k _ _ (.inl rfl) e,c⟩
 |set S n=>obtain ⟨ob,es,ep,t,e,c⟩:=x;exact ⟨ob,es,ep,t,k _ _ (.inl rfl) e,c⟩
 |ins C dx fs =>
  obtain ⟨d,z,ne,e,mA,⟨od,es,ep,e2,c⟩,r⟩:=x;exact ⟨ho _ d,z,ne,k _ _ (.inl rfl) e,mA,⟨od,es,ep,k _ _ (.inr d) e2,c⟩,r⟩
 |own y=>obtain ⟨ob,e⟩:=x;exact ⟨ob,k _ _ (.inl rfl) e⟩
 |xd fs=>obtain ⟨mA,⟨od,es,ep,e,c⟩,r⟩:=x;exact ⟨mA,⟨od,es,ep,k _ _ (.inl rfl) e,c⟩,r⟩
 |rng lo hi=>obtain ⟨t,u,v,e⟩:=x;exact ⟨t,u,v,k _ _ (.inl rfl) e⟩
 |frz ob u ih=>obtain ⟨e,q⟩:=x;exact ⟨k _ _ (.inl rfl) e,ih q⟩
 |tbl ps =>
  have e:h.get? a=some { cls:=.none,data:=.fields ps }:=x;show h'.get? a=some { cls:=.none,data:=.fields ps };exact k a _ (.inl rfl) e
 |met f y =>
  have e:h.get? a=some (PySem.W.methodObj (.ref f) (.ref y)):=x;show h'.get? a=some (PySem.W.methodObj (.ref f) (.ref y));exact k a _ (.inl rfl) e
 |ext φ=>obtain ⟨p,⟨o,e⟩,st⟩:=x;exact ⟨st _ _ p fun o q=>k _ _ (.inl rfl) q,⟨o,k _ _ (.inl rfl) e⟩,st⟩
theorem HOk.lt(x:HOk P w H h)(e:H a=some o):a < h.objs.size:=(x a o e).lt
theorem HOk.fresh(x:HOk P w H h)(e:h.objs.size <= a):H a=none:=by
 cases q:H a with
 |none=>rfl
 |some u=>exact absurd (Nat.lt_of_lt_of_le (x.lt q) e) (Nat.lt_irrefl _)
theorem HOk.kept(x:HOk P w H h)(k:∀ b u,h.get? b=some u->h'.get? b=some u):HOk P w H h':=fun a o e =>
 (x a o e).stay (fun b u _ q=>k b u q) (fun _ q=>q) fun _ _ q=>q
theorem HOk.laid(x:HOk P w H h)(k:∀ b u,h.get? b=some u->h'.get? b=some u)(hp:h.objs.size <= a)(new:ObjOk P w (upd H a o) h' a o):HOk P w (upd H a o) h':=fun b u e=>by
 have hn:=x.fresh hp
 by_cases hb:b=a
 ·subst hb;rw [m8] at e;cases e;exact new
 ·rw [p9 hb] at e;exact (x b u e).stay (fun c v _ q=>k c v q) (fun c q=>by rw [p9 (F9 q hn)];exact q) fun c xs q=>by rw [p9 (F9 q hn)];exact q
end
def Rd(H:Hp)(a:Addr)(u:HO):Prop:=H a=some u\/∃ o,H a=some (.frz o u)
theorem Rd.ok{P:Program}{w:World}{H:Hp}{h:Heap}{a:Addr}{u:HO}(r:Rd H a u)(x:HOk P w H h):ObjOk P w H h a u:=by
 rcases r with r | ⟨o,r⟩
 ·exact x a u r
 ·obtain ⟨_,q⟩:=x a _ r;exact q
def Mut:Option HO->Prop
 |some (.lst _)=>True
 |some (.dK _)=>True
 |some (.dT _)=>True
 |some (.set _ _)=>True
 |some (.ins _ _ _)=>True
 |some (.ext _)=>True
 |_=>False
section
variable {P:Program} {w:World} {H:Hp} {h h':Heap} {x e:Addr} {o':HO}
theorem HOk.write(ok:HOk P w H h)(mu:Mut (H x))(he:e=x\/H e=some (.own x))(k:∀ b u,b ≠ e->h.get? b=some u->h'.get? b=some u)(heo:∃ u,h'.get? e=some u)
  (new:ObjOk P w (upd H x o') h' x o'):HOk P w (upd H x o') h':=fun b u q=>by
 have nown:∀ c y,H c=some (.own y)->c ≠ x:=fun c y r z=>by subst z;rw [r] at mu;exact mu
 have ntup:∀ c xs,H c=some (.tup xs)->c ≠ x:=fun c xs r z=>by subst z;rw [r] at mu;exact mu
 by_cases hb:b=x
 ·subst hb;rw [m8] at q;cases q;exact new
 ·rw [p9 hb] at q
  by_cases hbe:b=e
  ·have q':H b=some (.own x):=by
    rcases he with z | z
    ·exact absurd (hbe.trans z) hb
    ·rw [hbe];exact z
   rw [q] at q';cases q'
   obtain ⟨v,hv⟩:=heo;exact ⟨v,by rw [hbe];exact hv⟩
  ·refine (ok b u q).stay (fun c v hc r=>k c v ?_ r) (fun c r=>by rw [p9 (nown c b r)];exact r) fun c xs r=>by rw [p9 (ntup c xs r)];exact r
   rcases hc with rfl | hc
   ·exact hbe
   ·rintro rfl
    rcases he with z | z
    ·exact nown c b hc z
    ·rw [hc] at z;cases z;exact hb rfl
end
structure Un(fs ex:List Addr)(H H':Hp)(h h':Heap):Prop where
 keep:∀ b o,h.get? b=some o->H b=none->b ∉ fs->b ∉ ex->h'.get? b=some o
 slot:∀ b o,h.get? b=some o->H b=none->b ∈ fs->b ∉ ex->∃ sl,h'.get? b=some { o with slots:=sl }
 free:∀ b o,h.get? b=some o->H b=none->b ∉ ex->H' b=none
 there:∀ b o,h.get? b=some o->b ∉ ex->∃ o',h'.get? b=some o'
 tups:∀ b xs,H b=some (.tup xs)->H' b=some (.tup xs)
 frzs:∀ b o u,H b=some (.frz o u)->H' b=some (.frz o u)
 tbls:∀ b ps,H b=some (.tbl ps)->∃ more,H' b=some (.tbl (ps ++ more))
section
variable {fs fs' ex ex':List Addr} {H H1 H2:Hp} {h h1 h2 h':Heap} {a x e:Addr} {o:HO}
theorem Un.any(u:Un fs ex H H1 h h1){b:Addr}{ob:Obj}(q:h.get? b=some ob)(n:H b=none)(hx:b ∉ ex):∃ sl,h1.get? b=some { ob with slots:=sl }:=by
 by_cases hb:b ∈ fs
 ·exact u.slot b ob q n hb hx
 ·exact ⟨ob.slots,u.keep b ob q n hb hx⟩
theorem Un.kept(k:∀ b u,h.get? b=some u->h'.get? b=some u):Un fs ex H H h h' :=
 ⟨fun b ob q _ _ _=>k b ob q,fun b ob q _ _ _=>⟨ob.slots,k b ob q⟩,fun _ _ _ n _=>n,fun b ob q _=>⟨ob,k b ob q⟩,fun _ _ q=>q,fun _ _ _ q=>q,fun _ ps q=>⟨#[],by rw [q];simp⟩⟩
theorem Un.refl:Un fs ex H H h h:=Un.kept fun _ _ q=>q
theorem Un.laid(k:∀ b u,h.get? b=some u->h'.get? b=some u)(hp:h.objs.size <= a)(hn:H a=none):Un fs ex H (upd H a o) h h' where
 keep:=fun b u q _ _ _=>k b u q
 slot:=fun b u q _ _ _=>⟨u.slots,k b u q⟩
 free:=fun b u q n _=>by rw [p9 (Nat.ne_of_lt (Nat.lt_of_lt_of_le (Heap.lt_size q) hp))];exact n
 there:=fun b u q _=>⟨u,k b u q⟩
 tups:=fun b xs q=>by rw [p9 (F9 q hn)];exact q
 frzs:=fun b u xs q=>by rw [p9 (F9 q hn)];exact q
 tbls:=fun b ps q=>⟨#[],by rw [p9 (F9 q hn),q];simp⟩
theorem Un.write(mu:Mut (H x))(he:e=x\/H e=some (.own x))(k:∀ b u,b ≠ e->h.get? b=some u->h'.get? b=some u)(heo:∃ u,h'.get? e=some u):Un fs ex H (upd H x o) h h':=by
 have hx:∀ b,H b=none->b ≠ x:=fun b n z=>by subst z;rw [n] at mu;exact mu
 have hb:∀ b,H b=none->b ≠ e:=fun b n z=>by
  subst z
  rcases he with r | r
  ·exact hx b n r
  ·rw [n] at r;cases r
 have hm:∀ b u,H b=some u->¬ Mut (some u)->b ≠ x:=fun b u q nm z=>by subst z;rw [q] at mu;exact nm mu
 refine ⟨fun b u q n _ _=>k b u (hb b n) q,fun b u q n _ _=>⟨u.slots,k b u (hb b n) q⟩,fun b u q n _=>by rw [p9 (hx b n)];exact n,fun b u q _=>?_,
  fun b xs q=>by rw [p9 (hm b _ q fun z=>z)];exact q,fun b u xs q=>by rw [p9 (hm b _ q fun z=>z)];exact q,fun b ps q=>⟨#[],by rw [p9 (hm b _ q fun z=>z),q];simp⟩⟩
 by_cases hbe:b=e
 ·subst hbe;exact heo
 ·exact ⟨u,k b u hbe q⟩
end
def trk(h:Heap)(H:Hp):List Addr:=(List.range h.objs.size).filter fun a=>(H a).isSome
def a1R(h:Heap)(H:Hp):Heap:=PySem.W.hideAll h (trk h H)
theorem a5T(h:Heap)(H:Hp):(a1R h H).objs.size=h.objs.size:=PySem.W.hideAll_size _ _
theorem a7D{h:Heap}{H:Hp}{b:Addr}{o:Obj}(e:h.get? b=some o)(n:H b=none):(a1R h H).get? b=some o :=
 PySem.W.hideAll_get _ e fun hm=>by
  have q:(H b).isSome=true:=(List.mem_filter.mp hm).2;rw [n] at q;simp at q
theorem b1g{h:Heap}{H:Hp}{b:Addr}{o:Obj}(e:(a1R h H).get? b=some o):h.get? b=some o/\H b=none:=by
 have e':h.get? b=some o:=PySem.W.of_hideAll (trk h H) e;refine ⟨e',?_⟩
 cases q:H b with
 |none=>rfl
 |some x =>
  have hm:b ∈ trk h H:=List.mem_filter.mpr ⟨List.mem_range.mpr (Heap.lt_size e'),by simp [q]⟩;have z:(a1R h H).get? b=none:=PySem.W.hideAll_none (trk h H) hm;rw [z] at e;cases e
end L2
namespace L2
open PySem PySem.Spec PyProof.Rows
structure Mod(K:PySem.W.Frag)(mg:Str->Option Value)(base:Heap):Prop where
 kin:K.In base
 glob:base.Ns mainGlobals mg
 blt:∃ mb,base.Ns builtinsNs mb/\∀ x:Str,x ≠ "__name__"->mb x=bootBuiltins x
 nolimit:base.NoLimit
set_option genInjectivity false in
structure Cx where
 prog:Program
 w:World
 K:PySem.W.Frag
 mg:Str->Option Value
 base:Heap
 A:Around
 N:List Str
 s₀:Shared
 H₀:Hp
 env:Env
 outer:List Env
 stack:List Env
 ex:List Addr
 fn:Str->Bool
 calm:Bool
 pn:List (Addr×Obj)
 xe:Value->Shared->Prop
 ex9:Value->Option Addr->Hp->Prop:=fun _ _ _=>False
def frs(l:List Env):List Addr:=l.filterMap (·.frame)
abbrev Cx.fs(X:Cx):List Addr:=frs X.outer
def Vis(sc:Scope)(x:Str):Prop:=sc.names.lookup x=some .local\/sc.names.lookup x=some .cell\/sc.names.lookup x=some .free
def Loc(sc:Scope)(x:Str):Prop:=sc.names.lookup x=some .local\/sc.names.lookup x=some .cell
def b9E(env:Env)(h:Heap)(m:Str->Option Value)(x:Str)(u:Value):Prop :=
 (env.kindOf x=some .local/\m x=some u)\/((env.kindOf x=some .cell\/env.kindOf x=some .free)/\∃ c,env.cells.lookup x=some c/\h.IsCell c (some u))
structure Cx.Ok(X:Cx):Prop where
 mod:Mod X.K X.mg X.base
 kind:X.env.scope.kind = .function
 glob:X.env.globals=mainGlobals
 blt:X.env.builtins=builtinsNs
 above:X.s₀.heap.objs.size <= X.env.locals
 inj:∀ x y c,X.env.cells.lookup x=some c->X.env.cells.lookup y=some c->x=y
 has:∀ x,(X.env.kindOf x=some .cell\/X.env.kindOf x=some .free)->∃ c,X.env.cells.lookup x=some c
 cab:∀ x c,X.fn x=true->X.env.cells.lookup x=some c->X.s₀.heap.objs.size <= c
 hd:X.calm=true->X.A.handled=none
 frames:X.A.frames=some X.stack
 stk:X.stack=X.outer\/(X.stack=X.env :: X.outer/\X.env.frame=some X.env.locals)
 exf:∀ b ∈ X.ex,b ≠ X.env.locals/\∀ x c,X.env.cells.lookup x=some c->c ≠ b
 bs:∀ b o,X.base.get? b=some o->X.s₀.heap.get? b=some o/\X.H₀ b=none
 bsz:X.base.objs.size <= X.s₀.heap.objs.size
 noex:∀ b o,X.base.get? b=some o->b ∉ X.ex
 exfs:∀ b ∈ X.ex,b ∉ X.fs
 funs:X.s₀.heap.FunFrames X.base X.outer
 frf:∀ b ∈ X.fs,X.H₀ b=none
structure Inv(X:Cx)(pins:List (Addr×Obj))(σ:List (Option V))(H:Hp)(s:Shared):Prop where
 ok:X.Ok
 os:s.os=X.s₀.os
 bare:AllBare s.gens
 base:Un X.fs X.ex X.H₀ H X.s₀.heap s.heap
 loc:∃ m,s.heap.Ns X.env.locals m/\∀ (i:Nat) (x:Str) (v:V),X.N[i]?=some x->σ[i]?=some (some v)->Vis X.env.scope x->∃ u,RelV v u/\b9E X.env s.heap m x u
 cell:∀ x c,X.env.cells.lookup x=some c->∃ v,s.heap.IsCell c v
 free:H X.env.locals=none
 freeC:∀ x c,X.env.cells.lookup x=some c->H c=none
 pin:∀ p ∈ X.pn ++ pins,s.heap.get? p.1=some p.2/\H p.1=none/\p.1 ≠ X.env.locals/\p.1 ∉ X.fs/\∀ v,p.2.data ≠ .cell v
 hok:HOk X.prog X.w H s.heap
 len:σ.length=X.N.length
section
variable {X:Cx} {pins:List (Addr×Obj)} {σ:List (Option V)} {H H':Hp} {s:Shared} {h':Heap}
theorem Cx.Ok.nofr(ok:X.Ok){b:Addr}{o:Obj}(e:X.base.get? b=some o):b ∉ X.fs:=fun hb=>by
 have:=(ok.funs.mem hb).1
 rw [e] at this;cases this
theorem Inv.bs(I:Inv X pins σ H s):∀ b o,X.base.get? b=some o->s.heap.get? b=some o/\H b=none:=fun b o e =>
 ⟨I.base.keep b o (I.ok.bs b o e).1 (I.ok.bs b o e).2 (I.ok.nofr e) (I.ok.noex b o e),I.base.free b o (I.ok.bs b o e).1 (I.ok.bs b o e).2 (I.ok.noex b o e)⟩
theorem Inv.bk(I:Inv X pins σ H s):∀ b o,X.base.get? b=some o->s.heap.get? b=some o:=fun b o e=>(I.bs b o e).1
theorem Inv.mod(I:Inv X pins σ H s):Mod X.K X.mg X.base:=I.ok.mod
theorem Inv.kIn(I:Inv X pins σ H s):X.K.In s.heap:=I.ok.mod.kin.keeps I.bk
theorem Inv.lt(I:Inv X pins σ H s):X.env.locals < s.heap.objs.size:=let ⟨_,hn,_⟩:=I.loc;hn.lt
theorem Inv.sz(I:Inv X pins σ H s):X.s₀.heap.objs.size <= s.heap.objs.size:=Nat.le_trans I.ok.above (Nat.le_of_lt I.lt)
theorem Inv.nofs(I:Inv X pins σ H s){a:Addr}(h:s.heap.objs.size <= a):a ∉ X.fs:=fun hb=>by
 obtain ⟨_,o,ho,_⟩:=I.ok.funs.mem hb;exact absurd (Nat.lt_of_lt_of_le (Heap.lt_size ho) (Nat.le_trans I.sz h)) (Nat.lt_irrefl _)
theorem Inv.cne(I:Inv X pins σ H s):∀ x c,X.env.cells.lookup x=some c->c ≠ X.env.locals:=fun x c e z=>by
 obtain ⟨v,o,ho,hd⟩:=I.cell x c e;obtain ⟨m,⟨o',es,ep,ho',hd',_⟩,_⟩:=I.loc;rw [z,ho'] at ho;cases ho;rw [hd'] at hd;cases hd
theorem Inv.funs(I:Inv X pins σ H s):s.heap.FunFrames X.base X.outer:=by
 have all:∀ (l:List Env),(∀ b ∈ frs l,b ∈ X.fs)->X.s₀.heap.FunFrames X.base l->s.heap.FunFrames X.base l:=by
  intro l
  induction l with
  |nil=>intro _ _;trivial
  |cons env r ih =>
   intro hs hl;obtain ⟨hk,⟨L,o,hf,hn,ho,hd⟩,hr⟩:=hl;have hL:L ∈ X.fs:=hs L (by unfold frs;rw [List.filterMap_cons,hf];exact List.mem_cons_self);obtain ⟨sl,e⟩:=I.base.slot L o ho (I.ok.frf L hL) hL fun z=>I.ok.exfs L z hL;exact ⟨hk,⟨L,_,hf,hn,e,hd⟩,ih (fun b hb=>hs b (by unfold frs;rw [List.filterMap_cons,hf];exact List.mem_cons_of_mem _ hb)) hr⟩
 exact all X.outer (fun _ hb=>hb) I.ok.funs
theorem Inv.stack(I:Inv X pins σ H s):s.heap.FunFrames X.base X.stack:=by
 rcases I.ok.stk with e | ⟨e,hf⟩
 ·rw [e];exact I.funs
 ·rw [e];obtain ⟨m,hn,_⟩:=I.loc;refine .cons (by rw [I.ok.kind];decide) hf hn ?_ I.funs;exact Heap.get?_none_of_le (Nat.le_trans I.ok.bsz I.ok.above)
theorem Inv.stkSub(I:Inv X pins σ H s):∀ b ∈ frs X.stack,b ∈ X.env.locals :: X.fs:=fun b hb=>by
 rcases I.ok.stk with e | ⟨e,hf⟩
 ·rw [e] at hb;exact List.mem_cons_of_mem _ hb
 ·rw [e] at hb;unfold frs at hb;rw [List.filterMap_cons,hf] at hb;exact hb
theorem Inv.stkFree(I:Inv X pins σ H s):∀ b ∈ frs X.stack,H b=none:=fun b hb=>by
 rcases List.mem_cons.mp (I.stkSub b hb) with e | hb
 ·rw [e];exact I.free
 ·obtain ⟨_,o,ho,_⟩:=I.ok.funs.mem hb;exact I.base.free b o ho (I.ok.frf b hb) fun z=>I.ok.exfs b z hb
theorem Inv.step{g':Array GenState}{t':Nat}{d':Drawn}{ch:List Addr}(I:Inv X pins σ H s)
  (hch:∀ b ∈ ch,(b ∈ X.ex\/X.s₀.heap.objs.size <= b)/\b ≠ X.env.locals/\(∀ x c,X.env.cells.lookup x=some c->c ≠ b)/\∀ p ∈ X.pn ++ pins,p.1 ≠ b)
  (keep:∀ b o,b ≠ X.env.locals->b ∉ X.fs->b ∉ ch->s.heap.get? b=some o->H b=none->h'.get? b=some o)
  (slot:∀ b o,b ≠ X.env.locals->b ∈ X.fs->b ∉ ch->s.heap.get? b=some o->H b=none->∃ sl,h'.get? b=some { o with slots:=sl }) (free:∀ b o,b ∉ ch->s.heap.get? b=some o->H b=none->H' b=none)
  (there:∀ b o,b ∉ ch->s.heap.get? b=some o->∃ o',h'.get? b=some o')
  (tups:∀ b xs,H b=some (.tup xs)->H' b=some (.tup xs)) (frzs:∀ b o u,H b=some (.frz o u)->H' b=some (.frz o u)) (tbls:∀ b ps,H b=some (.tbl ps)->∃ more,H' b=some (.tbl (ps ++ more)))
  (ns:∀ m,s.heap.Ns X.env.locals m->h'.Ns X.env.locals m) (hok:HOk X.prog X.w H' h') (hg:AllBare g') :
  Inv X pins σ H' { s with heap:=h',gens:=g',drawn:=d',toks:=t' }:=by
 have neL:∀ b o,X.s₀.heap.get? b=some o->b ≠ X.env.locals:=fun b o e=>Nat.ne_of_lt (Nat.lt_of_lt_of_le (Heap.lt_size e) I.ok.above)
 have neC:∀ b o,X.s₀.heap.get? b=some o->b ∉ X.ex->b ∉ ch:=fun b o e hx hb=>by
  rcases (hch b hb).1 with z | z
  ·exact hx z
  ·exact absurd (Nat.lt_of_lt_of_le (Heap.lt_size e) z) (Nat.lt_irrefl _)
 have cellK:∀ x c,X.env.cells.lookup x=some c->∀ v,s.heap.IsCell c v->h'.IsCell c v:=fun x c e v zz0=>by
  obtain ⟨o,ho,hd⟩:=zz0;have nch:c ∉ ch:=fun z=>(hch c z).2.2.1 x c e rfl
  by_cases hc:c ∈ X.fs
  ·obtain ⟨sl,q⟩:=slot c o (I.cne x c e) hc nch ho (I.freeC x c e);exact ⟨_,q,hd⟩
  ·exact ⟨o,keep c o (I.cne x c e) hc nch ho (I.freeC x c e),hd⟩
 refine ⟨I.ok,I.os,hg,⟨fun b o e n hb hx=>?_,fun b o e n hb hx=>?_,fun b o e n hx=>?_,fun b o e hx=>?_,fun b xs e=>tups b xs (I.base.tups b xs e),fun b o xs e=>frzs b o xs (I.base.frzs b o xs e),fun b ps e=>?_⟩,?_,fun x c e=>?_,?_,fun x c e=>?_,fun p hp=>?_,hok,I.len⟩
 ·exact keep b o (neL b o e) hb (neC b o e hx) (I.base.keep b o e n hb hx) (I.base.free b o e n hx)
 ·obtain ⟨sl,e1⟩:=I.base.slot b o e n hb hx;obtain ⟨sl',e2⟩:=slot b _ (neL b o e) hb (neC b o e hx) e1 (I.base.free b o e n hx);exact ⟨sl',e2⟩
 ·obtain ⟨o',e1⟩:=I.base.there b o e hx;exact free b o' (neC b o e hx) e1 (I.base.free b o e n hx)
 ·obtain ⟨o',e1⟩:=I.base.there b o e hx;exact there b o' (neC b o e hx) e1
 ·obtain ⟨m1,e1⟩:=I.base.tbls b ps e;obtain ⟨m2,e2⟩:=tbls b _ e1;exact ⟨m1 ++ m2,by rw [e2,Array.append_assoc]⟩
 ·obtain ⟨m,hn,hl⟩:=I.loc;refine ⟨m,ns m hn,fun i x v e1 e2 e3=>?_⟩;obtain ⟨u,r,l⟩:=hl i x v e1 e2 e3;refine ⟨u,r,?_⟩
  rcases l with l | ⟨k,c,e,z⟩
  ·exact .inl l
  ·exact .inr ⟨k,c,e,cellK x c e _ z⟩
 ·obtain ⟨v,z⟩:=I.cell x c e;exact ⟨v,cellK x c e v z⟩
 ·obtain ⟨m,⟨o,_,_,ho,_⟩,_⟩:=I.loc;exact free _ o (fun z=>(hch _ z).2.1 rfl) ho I.free
 ·obtain ⟨v,o,ho,hd⟩:=I.cell x c e;exact free c o (fun z=>(hch c z).2.2.1 x c e rfl) ho (I.freeC x c e)
 ·obtain ⟨e,n,ne,nf,d⟩:=I.pin p hp;have nch:p.1 ∉ ch:=fun z=>(hch p.1 z).2.2.2 p hp rfl;exact ⟨keep p.1 p.2 ne nf nch e n,free p.1 p.2 nch e n,ne,nf,d⟩
theorem Inv.un{t':Nat}(I:Inv X pins σ H s)(u:Un X.fs [] H H' s.heap h')(hok:HOk X.prog X.w H' h'):Inv X pins σ H' { s with heap:=h',toks:=t' }:=by
 obtain ⟨m,⟨o,es,ep,ho,r⟩,_⟩:=id I.loc;obtain ⟨sl,hL⟩:=u.any ho I.free (by simp)
 exact I.step (g':=s.gens) (d':=s.drawn) (ch:=[]) (fun _ z=>nomatch z) (fun b o _ hb _ e n=>u.keep b o e n hb (by simp)) (fun b o _ hb _ e n=>u.slot b o e n hb (by simp)) (fun b o _ e n=>u.free b o e n (by simp)) (fun b o _ e=>u.there b o e (by simp)) u.tups u.frzs u.tbls (fun m' hm=>by
  obtain ⟨o',es',ep',ho',r'⟩:=hm;rw [ho] at ho';cases ho'
  exact ⟨_,es',ep',hL,r'⟩) hok I.bare
theorem Inv.call{g':Array GenState}{t':Nat}{d':Drawn}{ch:List Addr}(I:Inv X pins σ H s)(u:Un (frs X.stack) ch H H' s.heap h')(hok:HOk X.prog X.w H' h')(hg:AllBare g')
  (hch:∀ b ∈ ch,(b ∈ X.ex\/X.s₀.heap.objs.size <= b)/\b ≠ X.env.locals/\(∀ x c,X.env.cells.lookup x=some c->c ≠ b)/\∀ p ∈ X.pn ++ pins,p.1 ≠ b) :
  Inv X pins σ H' { s with heap:=h',gens:=g',drawn:=d',toks:=t' }:=by
 obtain ⟨m,⟨o,es,ep,ho,r⟩,_⟩:=id I.loc;obtain ⟨sl,hL⟩:=u.any ho I.free fun z=>(hch _ z).2.1 rfl
 exact I.step (ch:=ch) hch (fun b o hL hb hc e n=>u.keep b o e n (fun z=>(List.mem_cons.mp (I.stkSub b z)).elim hL hb) hc) (fun b o _ _ hc e n=>u.any e n hc) (fun b o hc e n=>u.free b o e n hc) (fun b o hc e=>u.there b o e hc) u.tups u.frzs u.tbls (fun m' hm=>by
  obtain ⟨o',es',ep',ho',r'⟩:=hm;rw [ho] at ho';cases ho'
  exact ⟨_,es',ep',hL,r'⟩) hok hg
theorem Inv.turned{t':Nat}{it:Addr}(I:Inv X pins σ H s)(k:∀ b o,b ≠ it->s.heap.get? b=some o->h'.get? b=some o)(hn:H it=none)(hL:it ≠ X.env.locals)
  (h1:it ∈ X.ex\/X.s₀.heap.objs.size <= it) (h2:∀ x c,X.env.cells.lookup x=some c->c ≠ it) (h3:∀ p ∈ X.pn ++ pins,p.1 ≠ it):Inv X pins σ H { s with heap:=h',toks:=t' }:=by
 have nit:∀ b u,H b=some u->b ≠ it:=fun b u e z=>by rw [z,hn] at e;cases e
 refine I.step (g':=s.gens) (d':=s.drawn) (ch:=[it]) (fun b hb=>?_) (fun b o _ _ hc e _=>k b o (fun z=>hc (by simp [z])) e) (fun b o _ _ hc e _=>⟨o.slots,k b o (fun z=>hc (by simp [z])) e⟩) (fun _ _ _ _ n=>n)
  (fun b o hc e=>⟨o,k b o (fun z=>hc (by simp [z])) e⟩) (fun _ _ e=>e) (fun _ _ _ e=>e) (fun b ps e=>⟨#[],by rw [e];simp⟩) (fun m hm=>?_) (fun b u e=>?_) I.bare
 ·have e:b=it:=by simpa using hb
  subst e;exact ⟨h1,hL,h2,h3⟩
 ·obtain ⟨o,es,ep,ho,r⟩:=hm;exact ⟨o,es,ep,k _ o (Ne.symm hL) ho,r⟩
 ·refine (I.hok b u e).stay (fun c v hc q=>k c v ?_ q) (fun _ q=>q) fun _ _ q=>q
  rcases hc with z | z
  ·rw [z];exact nit b u e
  ·exact nit c _ z
theorem Inv.tok(I:Inv X pins σ H s)(t:Nat):Inv X pins σ H { s with toks:=t }:=I.un (h':=s.heap) (t':=t) Un.refl I.hok
theorem Inv.kept{t':Nat}(I:Inv X pins σ H s)(k:∀ b u,s.heap.get? b=some u->h'.get? b=some u):Inv X pins σ H { s with heap:=h',toks:=t' }:=I.un (Un.kept k) (I.hok.kept k)
theorem Inv.laid{a:Addr}{o:HO}{t':Nat}(I:Inv X pins σ H s)(k:∀ b u,s.heap.get? b=some u->h'.get? b=some u)(hp:s.heap.objs.size <= a)(new:ObjOk X.prog X.w (upd H a o) h' a o) :
  Inv X pins σ (upd H a o) { s with heap:=h',toks:=t' }:=I.un (Un.laid k hp (I.hok.fresh hp)) (I.hok.laid k hp new)
theorem Inv.write{x e:Addr}{o:HO}{t':Nat}(I:Inv X pins σ H s)(mu:Mut (H x))(he:e=x\/H e=some (.own x))(k:∀ b u,b ≠ e->s.heap.get? b=some u->h'.get? b=some u)(heo:∃ u,h'.get? e=some u)
  (new:ObjOk X.prog X.w (upd H x o) h' x o):Inv X pins σ (upd H x o) { s with heap:=h',toks:=t' }:=I.un (Un.write mu he k heo) (I.hok.write mu he k heo new)
theorem Inv.pins_of{pins':List (Addr×Obj)}(I:Inv X pins σ H s)(h:∀ p ∈ pins',s.heap.get? p.1=some p.2/\H p.1=none/\p.1 ≠ X.env.locals/\p.1 ∉ X.fs/\∀ v,p.2.data ≠ .cell v):Inv X pins' σ H s :=
 ⟨I.ok,I.os,I.bare,I.base,I.loc,I.cell,I.free,I.freeC,fun p hp=>(List.mem_append.mp hp).elim (fun z=>I.pin p (List.mem_append_left _ z)) (h p),I.hok,I.len⟩
theorem a0r{N:List Str}(hN:N.Nodup){i j:Nat}{x:Str}(a:N[i]?=some x)(b:N[j]?=some x):i=j:=by
 obtain ⟨h1,e1⟩:=List.getElem?_eq_some_iff.mp a;obtain ⟨h2,e2⟩:=List.getElem?_eq_some_iff.mp b;exact (List.getElem_inj hN).mp (e1.trans e2.symm)
theorem a0P{M:Model}{A:Around}{E:Value->Shared->Prop}{i:Nat}{x:Str}{v:V}{u:Value}{Q:Unit->Shared->Prop}(I:Inv X pins σ H s)(hN:X.N.Nodup)(hi:X.N[i]?=some x)(hx:Loc X.env.scope x)(r:RelV v u)
  (h:∀ s',Inv X pins (σ.set i (some v)) H s'->(∃ a,Heap.SameBut a s.heap s'.heap/\(a=X.env.locals\/X.env.cells.lookup x=some a))->Q () s') (hf:X.fn x=true\/X.env.scope.names.lookup x=some .local:=by trivial):wpAny M A (storeName X.env x u) Q E s:=by
 obtain ⟨m,hn,hl⟩:=id I.loc;have hcls:(X.env.scope.kind == .class || (X.env.scope.kind == .module && X.env.locals != X.env.globals))=false:=by rw [I.ok.kind];rfl
 have hiσ:i < σ.length:=by rw [I.len];exact (List.getElem?_eq_some_iff.mp hi).1
 have cne:=I.cne
 have tracked:∀ {a:Addr} {h':Heap},(∃ o,s.heap.get? a=some o/\H a=none)->Heap.SameBut a s.heap h'->HOk X.prog X.w H h':=fun {a h'} ha hs b ob e=>by
  obtain ⟨_,_,hfree⟩:=ha;refine (I.hok b ob e).stay (fun c w' hc q=>(hs.2 c ?_).trans q) (fun _ q=>q) fun _ _ q=>q
  rintro rfl
  rcases hc with rfl | hc
  ·rw [hfree] at e;cases e
  ·rw [hfree] at hc;cases hc
 rcases hx with hk | hk
 ·refine wpAny_storeName_local hk hn (fun h' hn' hs=>?_) hcls;obtain ⟨oL,_,_,hoL,_⟩:=id hn;refine h _ ⟨I.ok,I.os,I.bare,⟨fun b o e n hb hx=>?_,fun b o e n hb hx=>?_,I.base.free,fun b o e hx=>?_,I.base.tups,I.base.frzs,I.base.tbls⟩,⟨_,hn',fun j y v' e1 e2 e3=>?_⟩,fun y c e=>?_,I.free,I.freeC,fun p hp=>?_,tracked ⟨oL,hoL,I.free⟩ hs,by simpa using I.len⟩ ⟨_,hs,.inl rfl⟩
  ·exact (hs.2 b (Nat.ne_of_lt (Nat.lt_of_lt_of_le (Heap.lt_size e) I.ok.above))).trans (I.base.keep b o e n hb hx)
  ·obtain ⟨sl,e1⟩:=I.base.slot b o e n hb hx;exact ⟨sl,(hs.2 b (Nat.ne_of_lt (Nat.lt_of_lt_of_le (Heap.lt_size e) I.ok.above))).trans e1⟩
  ·obtain ⟨o',e1⟩:=I.base.there b o e hx;exact ⟨o',(hs.2 b (Nat.ne_of_lt (Nat.lt_of_lt_of_le (Heap.lt_size e) I.ok.above))).trans e1⟩
  ·by_cases hj:j=i
   ·subst hj;rw [hi] at e1;cases e1;rw [List.getElem?_set_self hiσ] at e2;cases e2;exact ⟨u,r,.inl ⟨hk,by simp⟩⟩
   ·rw [List.getElem?_set_ne (Ne.symm hj)] at e2;obtain ⟨u',r',q⟩:=hl j y v' e1 e2 e3;refine ⟨u',r',?_⟩
    rcases q with ⟨k,e⟩ | ⟨k,c,e,z⟩
    ·refine .inl ⟨k,?_⟩
     have:y ≠ x:=fun e=>hj (a0r hN e1 (e ▸ hi))
     simp [this,e]
    ·exact .inr ⟨k,c,e,z.sameBut hs (cne y c e)⟩
  ·obtain ⟨w',z⟩:=I.cell y c e;exact ⟨w',z.sameBut hs (cne y c e)⟩
  ·obtain ⟨e,n,ne,nf,d⟩:=I.pin p hp;exact ⟨(hs.2 p.1 ne).trans e,n,ne,nf,d⟩
 ·have hfn:X.fn x=true:=by
   rcases hf with z | z
   ·exact z
   ·rw [z] at hk;cases hk
  obtain ⟨c,hc⟩:=I.ok.has x (.inl hk);obtain ⟨w',z⟩:=I.cell x c hc;refine wpAny_storeName_cell I.ok.kind hk hc z (fun h' hc' hs=>?_);obtain ⟨oc,hoc,hocd⟩:=id z;refine h { s with heap:=h' } ⟨I.ok,I.os,I.bare,⟨fun b o e n hb hx=>?_,fun b o e n hb hx=>?_,I.base.free,fun b o e hx=>?_,I.base.tups,I.base.frzs,I.base.tbls⟩,⟨m,hn.sameBut hs (Ne.symm (cne x c hc)),fun j y v' e1 e2 e3=>?_⟩,fun y c' e=>?_,I.free,I.freeC,fun p hp=>?_,tracked ⟨oc,hoc,I.freeC x c hc⟩ hs,by simpa using I.len⟩ ⟨c,hs,.inr hc⟩
  ·exact (hs.2 b (Nat.ne_of_lt (Nat.lt_of_lt_of_le (Heap.lt_size e) (I.ok.cab x c hfn hc)))).trans (I.base.keep b o e n hb hx)
  ·obtain ⟨sl,e1⟩:=I.base.slot b o e n hb hx;exact ⟨sl,(hs.2 b (Nat.ne_of_lt (Nat.lt_of_lt_of_le (Heap.lt_size e) (I.ok.cab x c hfn hc)))).trans e1⟩
  ·obtain ⟨o',e1⟩:=I.base.there b o e hx;exact ⟨o',(hs.2 b (Nat.ne_of_lt (Nat.lt_of_lt_of_le (Heap.lt_size e) (I.ok.cab x c hfn hc)))).trans e1⟩
  ·by_cases hj:j=i
   ·subst hj;rw [hi] at e1;cases e1;rw [List.getElem?_set_self hiσ] at e2;cases e2;exact ⟨u,r,.inr ⟨.inl hk,c,hc,hc'⟩⟩
   ·rw [List.getElem?_set_ne (Ne.symm hj)] at e2;obtain ⟨u',r',q⟩:=hl j y v' e1 e2 e3;refine ⟨u',r',?_⟩
    rcases q with q | ⟨k,c',e,z'⟩
    ·exact .inl q
    ·refine .inr ⟨k,c',e,z'.sameBut hs ?_⟩
     rintro rfl
     exact hj (a0r hN e1 (I.ok.inj _ _ _ e hc ▸ hi))
  ·by_cases hcc:c'=c
   ·subst hcc;exact ⟨_,hc'⟩
   ·obtain ⟨w2,z2⟩:=I.cell y c' e;exact ⟨w2,z2.sameBut hs hcc⟩
  ·obtain ⟨e,n,ne,nf,d⟩:=I.pin p hp;refine ⟨(hs.2 p.1 ?_).trans e,n,ne,nf,d⟩;intro q;rw [q,hoc] at e;have q':oc=p.2:=Option.some.inj e;exact d w' (by rw [<- q'];exact hocd)
theorem W2{M:Model}{A:Around}{E:Value->Shared->Prop}{i:Nat}{x:Str}{v:V}{u:Value}{Q:Unit->Shared->Prop}(I:Inv X pins σ H s)(hN:X.N.Nodup)(hi:X.N[i]?=some x)(hx:Loc X.env.scope x)(r:RelV v u)
  (h:∀ s',Inv X pins (σ.set i (some v)) H s'->Q () s') (hf:X.fn x=true\/X.env.scope.names.lookup x=some .local:=by trivial):wpAny M A (storeName X.env x u) Q E s :=
 a0P I hN hi hx r (fun s' I' _=>h s' I') hf
theorem Inv.call'{s':Shared}{ch:List Addr}(I:Inv X pins σ H s)(ho:s'.os=s.os)(u:Un (frs X.stack) ch H H' s.heap s'.heap)(hok:HOk X.prog X.w H' s'.heap)(hg:AllBare s'.gens)
  (hch:∀ b ∈ ch,(b ∈ X.ex\/X.s₀.heap.objs.size <= b)/\b ≠ X.env.locals/\(∀ x c,X.env.cells.lookup x=some c->c ≠ b)/\∀ p ∈ X.pn ++ pins,p.1 ≠ b):Inv X pins σ H' s':=by
 obtain ⟨h',g',d',t',o'⟩:=s';have e:o'=s.os:=ho;subst e;exact I.call (g':=g') (t':=t') (d':=d') u hok hg hch
end
abbrev XK:=Value->Option Addr->Hp->Prop
abbrev St:=List (Option V)
abbrev VK:=V->Hp->Prop
abbrev TE:=St->Hp->VK->Prop
abbrev TT:=St->Hp->(Bool->Hp->Prop)->Prop
abbrev TA:=St->Hp->(List V->Hp->Prop)->Prop
structure M9 where
 nx:St->Hp->Prop
 rt:VK
 bk:St->Hp->Prop:=fun _ _=>False
 ct:St->Hp->Prop:=fun _ _=>False
abbrev TS:=M9->St->Hp->Prop
def EP(X:Cx)(pins:List (Addr×Obj))(σ:St)(Q:VK)(u:Value)(s':Shared):Prop:=∃ v H',Inv X pins σ H' s'/\RelV v u/\Q v H'
def TP(X:Cx)(pins:List (Addr×Obj))(σ:St)(Q:Bool->Hp->Prop)(b:Bool)(s':Shared):Prop:=∃ H',Inv X pins σ H' s'/\Q b H'
def AP(X:Cx)(pins:List (Addr×Obj))(σ:St)(Q:List V->Hp->Prop)(us:List Value)(s':Shared):Prop:=∃ vs H',Inv X pins σ H' s'/\Vals vs us/\Q vs H'
def SP(X:Cx)(pins:List (Addr×Obj))(D:M9)(f:Flow)(s':Shared):Prop :=
 match f with
 |.next=>∃ σ' H',Inv X pins σ' H' s'/\D.nx σ' H'
 |.brk=>∃ σ' H',Inv X pins σ' H' s'/\D.bk σ' H'
 |.cont=>∃ σ' H',Inv X pins σ' H' s'/\D.ct σ' H'
 |.ret u=>∃ v σ' H',Inv X pins σ' H' s'/\RelV v u/\D.rt v H'
def PE(X:Cx)(e:Expr)(t:TE):Prop :=
 ∀ (pins:List (Addr×Obj)) (s:Shared) (σ:St) (H:Hp) (Q:VK),Inv X pins σ H s->t σ H Q->wpAny (model X.prog X.w) X.A (eval e X.env) (EP X pins σ Q) X.xe s
def PT(X:Cx)(e:Expr)(t:TT):Prop :=
 ∀ (pins:List (Addr×Obj)) (s:Shared) (σ:St) (H:Hp) (Q:Bool->Hp->Prop),Inv X pins σ H s->t σ H Q->wpAny (model X.prog X.w) X.A (isTrue e X.env (eval e X.env)) (TP X pins σ Q) X.xe s
def PW(X:Cx)(e:Expr)(t:TT):Prop :=
 ∀ (whole:Sem Value) (pins:List (Addr×Obj)) (s:Shared) (σ:St) (H:Hp) (Q:Bool->Hp->Prop),Inv X pins σ H s->t σ H Q->wpAny (model X.prog X.w) X.A (isTrue e X.env whole) (TP X pins σ Q) X.xe s
theorem PW.pt{X:Cx}{e:Expr}{t:TT}(h:PW X e t):PT X e t:=h _
def PA(X:Cx)(es:List Expr)(t:TA):Prop :=
 ∀ (pos:Pos) (pins:List (Addr×Obj)) (s:Shared) (σ:St) (H:Hp) (Q:List V->Hp->Prop),Inv X pins σ H s->t σ H Q->wpAny (model X.prog X.w) X.A (spliced (backTo pos (starEach es X.env))) (AP X pins σ Q) X.xe s
def PS(X:Cx)(st:Stmt)(t:TS):Prop :=
 ∀ (pins:List (Addr×Obj)) (s:Shared) (σ:St) (H:Hp) (D:M9),Inv X pins σ H s->t D σ H->wpAny (model X.prog X.w) X.A (exec st X.env) (SP X pins D) X.xe s
def PSs(X:Cx)(st:List Stmt)(t:TS):Prop :=
 ∀ (pins:List (Addr×Obj)) (s:Shared) (σ:St) (H:Hp) (D:M9),Inv X pins σ H s->t D σ H->wpAny (model X.prog X.w) X.A (execs st X.env) (SP X pins D) X.xe s
theorem thn{α:Type}{t:Sem α}{Q Q':α->Shared->Prop}{M:Model}{A:Around}{E:Value->Shared->Prop}{s:Shared}(h:wpAny M A t Q E s)(hQ:∀ a s,Q a s->Q' a s):wpAny M A t Q' E s:=wpAny_mono h hQ fun _ _ x=>x
end L2
namespace L2
open PySem PySem.Spec PyProof.Rows
section
variable {X:Cx}
def b3y(i:Nat):TE:=fun σ H Q=>∃ v,σ[i]?=some (some v)/\Q v H
def tC(v:V):TE:=fun _ H Q=>Q v H
theorem a6j{i:Nat}{x:Str}{pos:Pos}(hN:X.N[i]?=some x)(hv:Vis X.env.scope x)(hd:(x == ("__debug__":Str))=false:=by decide)(hcd:(x == ("__classdict__":Str))=false:=by decide):PE X (.Name x pos) (b3y i):=by
 intro pins s σ H Q I h;obtain ⟨v,e,h⟩:=h;obtain ⟨m,hn,hl⟩:=I.loc;obtain ⟨u,r,l⟩:=hl i x v hN e hv;have fin:EP X pins σ Q u s:=⟨v,H,I,r,h⟩
 rcases l with ⟨hk,hm⟩ | ⟨hk,c,hc,hcell⟩
 ·exact wpAny_Name (wpAny_loadName_local I.ok.kind hk hn hm fin) hd
 ·rcases hk with hk | hk
  ·exact wpAny_Name (wpAny_loadName_cell I.ok.kind hk hc hcell fin) hd
  ·exact wpAny_Name (wpAny_loadName_free I.ok.kind hk hc hcell fin hcd) hd
theorem b3O{i j pos}:PE X (.Constant (.int i) j pos) (tC (.int i)):=fun _ _ _ H _ I h=>wpAny_Constant_int ⟨.int i,H,I.tok _,⟨_,rfl⟩,h⟩
theorem b7M{b j pos}:PE X (.Constant (.bool b) j pos) (tC (.bl b)):=fun _ _ _ H _ I h=>Constant_bool ⟨.bl b,H,I,rfl,h⟩
theorem b5C{j pos}:PE X (.Constant .none j pos) (tC .non):=fun _ _ _ H _ I h=>Constant_none ⟨.non,H,I,rfl,h⟩
theorem a0j{x j pos}:PE X (.Constant (.str x) j pos) (tC (.str x)):=fun _ _ _ H _ I h=>Calls.Constant_str ⟨.str x,H,I.tok _,⟨_,rfl⟩,h⟩
def Gl(X:Cx)(x:Str):Prop:=X.env.kindOf x=some .globalImplicit
theorem L4{E:Value->Shared->Prop}{pins:List (Addr×Obj)}{s:Shared}{σ:St}{H:Hp}{x:Str}{u:Value}{pos:Pos}{Q:Value->Shared->Prop}(I:Inv X pins σ H s)(hg:Gl X x)(hm:X.mg x=some u)(h:Q u s)
  (hd:(x == ("__debug__":Str))=false:=by decide):wpAny (model X.prog X.w) X.A (eval (.Name x pos) X.env) Q E s :=
 Calls.Name_function_global I.ok.kind hg (Calls.loadGlobal_global (by rw [I.ok.glob];exact I.mod.glob.keeps I.bk) hm h) hd
theorem M1{E:Value->Shared->Prop}{pins:List (Addr×Obj)}{s:Shared}{σ:St}{H:Hp}{x:Str}{u:Value}{pos:Pos}{Q:Value->Shared->Prop}(I:Inv X pins σ H s)(hg:Gl X x)(hm:X.mg x=none)(hv:bootBuiltins x=some u)(h:Q u s)
  (hn:x ≠ "__name__":=by decide) (hd:(x == ("__debug__":Str))=false:=by decide):wpAny (model X.prog X.w) X.A (eval (.Name x pos) X.env) Q E s:=by
 obtain ⟨mb,h1,h2⟩:=I.mod.blt;exact Calls.Name_function_global I.ok.kind hg (Calls.loadGlobal_builtin (by rw [I.ok.glob];exact I.mod.glob.keeps I.bk) hm (by rw [I.ok.blt];exact h1.keeps I.bk) ((h2 x hn).trans hv) h) hd
theorem P8{x:Str}{v:V}{u:Value}{pos:Pos}(hg:Gl X x)(hm:X.mg x=some u)(r:RelV v u)(hd:(x == ("__debug__":Str))=false:=by decide):PE X (.Name x pos) (tC v) :=
 fun _ _ _ H _ I h=>L4 I hg hm ⟨v,H,I,r,h⟩ hd
theorem J4{x:Str}{v:V}{u:Value}{pos:Pos}(hg:Gl X x)(hm:X.mg x=none)(hv:bootBuiltins x=some u)(r:RelV v u)(hn:x ≠ "__name__":=by decide)(hd:(x == ("__debug__":Str))=false:=by decide):PE X (.Name x pos) (tC v) :=
 fun _ _ _ H _ I h=>M1 I hg hm hv ⟨v,H,I,r,h⟩ hn hd
variable {a b:Expr} {ta tb:TE} {pos:Pos}
variable {tA tB':TT} {rest:List Expr}
def b9U(t u:TT):TT:=fun σ H Q=>t σ H fun c H1=>if c=true then u σ H1 Q else Q false H1
def tOr(t u:TT):TT:=fun σ H Q=>t σ H fun c H1=>if c=true then Q true H1 else u σ H1 Q
def b9l(t:TT):TT:=fun σ H Q=>t σ H fun c H1=>Q (!c) H1
theorem b1Y(ha:PT X a tA):PW X (.BoolOp .And [a] pos) tA:=by
 intro wh pins s σ H Q I h;refine isTrue_and (thn (ha pins s σ H Q I h) fun c s1 e=>?_)
 cases c with
 |true=>exact isTrue_and_nil e
 |false=>exact e
theorem b3U(ha:PT X a tA):PW X (.BoolOp .Or [a] pos) tA:=by
 intro wh pins s σ H Q I h;refine isTrue_or (thn (ha pins s σ H Q I h) fun c s1 e=>?_)
 cases c with
 |false=>exact isTrue_or_nil e
 |true=>exact e
theorem b6y(ha:PT X a tA)(hb:PW X (.BoolOp .And (b :: rest) pos) tB'):PW X (.BoolOp .And (a :: b :: rest) pos) (b9U tA tB'):=by
 intro wh pins s σ H Q I h;refine isTrue_and (thn (ha pins s σ H _ I h) fun c s1 zz0=>?_);obtain ⟨H1,I1,q1⟩:=zz0
 cases c with
 |true=>exact hb wh pins s1 σ H1 Q I1 q1
 |false=>exact ⟨H1,I1,q1⟩
theorem b7C(ha:PT X a tA)(hb:PW X (.BoolOp .Or (b :: rest) pos) tB'):PW X (.BoolOp .Or (a :: b :: rest) pos) (tOr tA tB'):=by
 intro wh pins s σ H Q I h;refine isTrue_or (thn (ha pins s σ H _ I h) fun c s1 zz0=>?_);obtain ⟨H1,I1,q1⟩:=zz0
 cases c with
 |true=>exact ⟨H1,I1,q1⟩
 |false=>exact hb wh pins s1 σ H1 Q I1 q1
theorem b4S(ha:PT X a tA):PT X (.UnaryOp .Not a pos) (b9l tA):=by
 intro pins s σ H Q I h;exact isTrue_not (ha pins s σ H (fun c H1=>Q (!c) H1) I h)
def b6P(ta tb:TE):TE:=fun σ H Q=>ta σ H fun x H1=>∃ c,x = .bl c/\if c=true then tb σ H1 Q else Q (.bl false) H1
def b9R(ta tb:TE):TE:=fun σ H Q=>ta σ H fun x H1=>∃ c,x = .bl c/\if c=true then Q (.bl true) H1 else tb σ H1 Q
theorem b6q{op}{t:TE}(h:PE X a t):PE X (.BoolOp op [a] pos) t:=fun pins s σ H Q I hw=>BoolOp_one (h pins s σ H Q I hw)
theorem b3H(ha:PE X a ta)(hb:PE X (.BoolOp .And (b :: rest) pos) tb):PE X (.BoolOp .And (a :: b :: rest) pos) (b6P ta tb):=by
 intro pins s σ H Q I h;refine BoolOp_and (thn (ha pins s σ H _ I h) fun v s1 zz0=>?_);obtain ⟨x,H1,I1,r1,q1⟩:=zz0;obtain ⟨c,rfl,q1⟩:=q1;cases r1;refine wpAny_truthy_bool ?_
 cases c with
 |true=>exact hb pins s1 σ H1 Q I1 q1
 |false=>exact ⟨.bl false,H1,I1,rfl,q1⟩
theorem b7V(ha:PE X a ta)(hb:PE X (.BoolOp .Or (b :: rest) pos) tb):PE X (.BoolOp .Or (a :: b :: rest) pos) (b9R ta tb):=by
 intro pins s σ H Q I h;refine BoolOp_or (thn (ha pins s σ H _ I h) fun v s1 zz0=>?_);obtain ⟨x,H1,I1,r1,q1⟩:=zz0;obtain ⟨c,rfl,q1⟩:=q1;cases r1;refine wpAny_truthy_bool ?_
 cases c with
 |false=>exact hb pins s1 σ H1 Q I1 q1
 |true=>exact ⟨.bl true,H1,I1,rfl,q1⟩
def tIf(t:TT)(ta tb:TE):TE:=fun σ H Q=>t σ H fun c H1=>if c=true then ta σ H1 Q else tb σ H1 Q
theorem a8k{c:Expr}(hc:PT X c tA)(ha:PE X a ta)(hb:PE X b tb):PE X (.IfExp c a b pos) (tIf tA ta tb):=by
 intro pins s σ H Q I h;refine wpAny_IfExp (thn (hc pins s σ H _ I h) fun d s1 zz0=>?_);obtain ⟨H1,I1,q1⟩:=zz0
 cases d with
 |true=>exact ha pins s1 σ H1 Q I1 q1
 |false=>exact hb pins s1 σ H1 Q I1 q1
end
end L2
namespace L2
open PySem PySem.Spec PyProof.Rows
def SqL(K:PySem.W.Frag)(H:Hp)(a:Addr)(xs:List V):Prop :=
 Rd H a (.lst xs) \/
  ∃ (o:Obj) (its:Array Value) (n:Nat),K.lookup a=some o/\o.cls = .type "list"/\o.dict=none/\o.data = .seq its n/\its.size <= sizeLine/\Vals xs its.toList
def SqT(K:PySem.W.Frag)(H:Hp)(a:Addr)(xs:List V):Prop :=
 Rd H a (.tup xs) \/
  ∃ (o:Obj) (its:Array Value) (n:Nat),K.lookup a=some o/\o.cls = .type "tuple"/\o.data = .seq its n/\its.size <= sizeLine/\Vals xs its.toList
def b9G:Value->Option V
 |.none=>some .non
 |.bool b=>some (.bl b)
 |.int i _=>some (.int i)
 |.str x _=>some (.str x)
 |.bytes b _=>some (.byt b)
 |.float b _=>some (.flt b)
 |.ref a=>some (.ref a)
 |.type n=>some (.ty n)
 |_=>none
theorem RelV.abs{x:V}{u:Value}(r:RelV x u):b9G u=some x:=by
 cases x with
 |non=>cases r;rfl
 |bl _=>cases r;rfl
 |int _=>obtain ⟨t,rfl⟩:=r;rfl
 |str _=>obtain ⟨t,rfl⟩:=r;rfl
 |byt _=>obtain ⟨t,rfl⟩:=r;rfl
 |flt _=>obtain ⟨t,rfl⟩:=r;rfl
 |ref _=>cases r;rfl
 |ty _=>cases r;rfl
theorem RelV.inj{x y:V}{u:Value}(r:RelV x u)(q:RelV y u):x=y:=Option.some.inj (r.abs.symm.trans q.abs)
theorem Vals.inj{xs ys:List V}{us:List Value}(h:Vals xs us)(h':Vals ys us):xs=ys:=by
 induction h generalizing ys with
 |nil=>cases h';rfl
 |cons r _ ih =>
  cases h' with
  |cons r' t'=>rw [r.inj r',ih t']
section
variable {X:Cx} {pins:List (Addr×Obj)} {σ:St} {H:Hp} {s:Shared} {a:Addr} {xs ys:List V}
theorem SqL.of{K:PySem.W.Frag}(h:H a=some (.lst xs)):SqL K H a xs:=.inl (.inl h)
theorem Inv.list(I:Inv X pins σ H s)(h:SqL X.K H a xs):∃ its:List Value,Vals xs its/\PlainL s.heap a its.toArray/\xs.length <= sizeLine:=by
 rcases h with h | ⟨o,its,n,hk,hc,hd,hs,hz,r⟩
 ·obtain ⟨z,its,n,r,e⟩:=h.ok I.hok;exact ⟨its,r,⟨_,n,e,rfl,rfl,rfl⟩,z⟩
 ·refine ⟨its.toList,r,⟨o,n,I.kIn a o hk,hc,hd,by simpa using hs⟩,?_⟩;have e:=r.length;simp only [Array.length_toList] at e;omega
theorem Inv.tuple(I:Inv X pins σ H s)(h:SqT X.K H a xs):∃ its:List Value,Vals xs its/\IsTup s.heap a its.toArray/\xs.length <= sizeLine:=by
 rcases h with h | ⟨o,its,n,hk,hc,hs,hz,r⟩
 ·obtain ⟨z,its,r,p⟩:=h.ok I.hok;exact ⟨its,r,p,z⟩
 ·refine ⟨its.toList,r,⟨o,I.kIn a o hk,hc,n,by simpa using hs⟩,?_⟩;have e:=r.length;simp only [Array.length_toList] at e;omega
theorem Inv.list_inj(I:Inv X pins σ H s)(h:SqL X.K H a xs)(h':SqL X.K H a ys):xs=ys:=by
 obtain ⟨its,r,⟨o,n,e,_,_,d⟩,_⟩:=I.list h;obtain ⟨its',r',⟨o',n',e',_,_,d'⟩,_⟩:=I.list h';rw [e] at e';cases e'
 rw [d] at d'
 injection d' with d1 _
 have:its=its':=by simpa using congrArg Array.toList d1
 subst this;exact r.inj r'
theorem Inv.tuple_inj(I:Inv X pins σ H s)(h:SqT X.K H a xs)(h':SqT X.K H a ys):xs=ys:=by
 obtain ⟨its,r,⟨o,e,_,n,d⟩,_⟩:=I.tuple h;obtain ⟨its',r',⟨o',e',_,n',d'⟩,_⟩:=I.tuple h';rw [e] at e';cases e'
 rw [d] at d'
 injection d' with d1 _
 have:its=its':=by simpa using congrArg Array.toList d1
 subst this;exact r.inj r'
end
abbrev Cx.wish(X:Cx)(E:Value->Shared->Prop):Cx:={ X with xe:=E }
abbrev Cx.nox(X:Cx):Cx:=X.wish fun _ _=>False
theorem Cx.Ok.wish{X:Cx}(ok:X.Ok)(E:Value->Shared->Prop):(X.wish E).Ok :=
 ⟨ok.mod,ok.kind,ok.glob,ok.blt,ok.above,ok.inj,ok.has,ok.cab,ok.hd,ok.frames,ok.stk,ok.exf,ok.bs,ok.bsz,ok.noex,ok.exfs,ok.funs,ok.frf⟩
theorem Cx.Ok.unwish{X:Cx}{E:Value->Shared->Prop}(ok:(X.wish E).Ok):X.Ok :=
 ⟨ok.mod,ok.kind,ok.glob,ok.blt,ok.above,ok.inj,ok.has,ok.cab,ok.hd,ok.frames,ok.stk,ok.exf,ok.bs,ok.bsz,ok.noex,ok.exfs,ok.funs,ok.frf⟩
section
variable {X:Cx} {pins:List (Addr×Obj)} {σ:St} {H:Hp} {s:Shared} {E:Value->Shared->Prop}
theorem Inv.wish(I:Inv X pins σ H s)(E:Value->Shared->Prop):Inv (X.wish E) pins σ H s:=⟨I.ok.wish E,I.os,I.bare,I.base,I.loc,I.cell,I.free,I.freeC,I.pin,I.hok,I.len⟩
theorem Inv.unwish(I:Inv (X.wish E) pins σ H s):Inv X pins σ H s:=⟨I.ok.unwish,I.os,I.bare,I.base,I.loc,I.cell,I.free,I.freeC,I.pin,I.hok,I.len⟩
theorem SP.unwish{D:M9}{f:Flow}{s':Shared}(h:SP (X.wish E) pins D f s'):SP X pins D f s':=by
 cases f with
 |next=>obtain ⟨σ',H',I,q⟩:=h;exact ⟨σ',H',I.unwish,q⟩
 |brk=>obtain ⟨σ',H',I,q⟩:=h;exact ⟨σ',H',I.unwish,q⟩
 |cont=>obtain ⟨σ',H',I,q⟩:=h;exact ⟨σ',H',I.unwish,q⟩
 |ret u=>obtain ⟨v,σ',H',I,r,q⟩:=h;exact ⟨v,σ',H',I.unwish,r,q⟩
theorem PSs.nox{st:List Stmt}{t:TS}(h:PSs X.nox st t):PSs X st t:=fun pins s σ H D I hw =>
 wpAny_mono (h pins s σ H D (I.wish _) hw) (fun _ _ q=>q.unwish) fun _ _ z=>False.elim z
end
section
variable {X:Cx} {st:Stmt} {rest:List Stmt} {t u:TS} {e:Expr} {te:TE} {pos:Pos}
def b6V:TS:=fun D σ H=>D.nx σ H
def b7o(t u:TS):TS:=fun D σ H=>t { D with nx:=u D } σ H
theorem b2a:PSs X [] b6V:=fun _ _ σ H _ I h=>wpAny_execs_nil ⟨σ,H,I,h⟩
theorem a3a(h1:PS X st t)(h2:PSs X rest u):PSs X (st :: rest) (b7o t u):=by
 intro pins s σ H D I h;refine wpAny_execs_cons (thn (h1 pins s σ H { D with nx:=u D } I h) fun f s1 q=>?_)
 cases f with
 |next =>
  obtain ⟨σ',H',I',q⟩:=q;exact h2 pins s1 σ' H' D I' q
 |ret v=>exact q
 |brk=>exact q
 |cont=>exact q
theorem a5f(h1:PS X st t):PSs X [st] t:=by
 intro pins s σ H D I h;refine wpAny_execs_cons (thn (h1 pins s σ H D I h) fun f s1 q=>?_)
 cases f with
 |next=>exact wpAny_execs_nil q
 |ret v=>exact q
 |brk=>exact q
 |cont=>exact q
theorem Inv.quiet{pins:List (Addr×Obj)}{σ:St}{H:Hp}{s:Shared}(I:Inv X pins σ H s):interactive X.env=false:=by simp [interactive,I.ok.kind]
def b8L(te:TE):TS:=fun D σ H=>te σ H fun _ H1=>D.nx σ H1
theorem a4E(he:PE X e te)(hs:swapsWith e none pos.line X.env=pure false:=by rfl):PS X (.Expr e pos) (b8L te):=by
 intro pins s σ H D I h;exact wpAny_Expr_any (thn (he pins s σ H _ I h) fun v s1 ⟨x,H1,I1,r1,q1⟩=>⟨σ,H1,I1,q1⟩) I.quiet hs
def b9w(te:TE):TS:=fun D σ H=>te σ H D.rt
theorem b4I(he:PE X e te):PS X (.Return (some e) pos) (b9w te):=by
 intro pins s σ H D I h;exact wpAny_Return_some (thn (he pins s σ H _ I h) fun v s1 ⟨x,H1,I1,r1,q1⟩=>⟨x,σ,H1,I1,r1,q1⟩)
def b9t(c:TT)(t u:TS):TS:=fun D σ H=>c σ H fun b H1=>if b=true then t D σ H1 else u D σ H1
theorem b7J{c:Expr}{a b:List Stmt}{tc:TT}(hc:PT X c tc)(ha:PSs X a t)(hb:PSs X b u):PS X (.If c a b pos) (b9t tc t u):=by
 intro pins s σ H D I h;refine wpAny_If (thn (hc pins s σ H _ I h) fun d s1 zz0=>?_);obtain ⟨H1,I1,q1⟩:=zz0
 cases d with
 |true=>exact ha pins s1 σ H1 D I1 q1
 |false=>exact hb pins s1 σ H1 D I1 q1
def b5Q:TS:=fun _ _ _=>False
theorem a7A:PS X st b5Q:=fun _ _ _ _ _ _ h=>h.elim
end
abbrev TG:=V->St->Hp->(St->Hp->Prop)->Prop
abbrev TGs:=List V->St->Hp->(St->Hp->Prop)->Prop
def PG(X:Cx)(target:Expr)(t:TG):Prop :=
 ∀ (pins:List (Addr×Obj)) (s:Shared) (σ:St) (H:Hp) (v:V) (u:Value) (Q:St->Hp->Prop),Inv X pins σ H s->RelV v u->t v σ H Q ->
  wpAny (model X.prog X.w) X.A (assign target X.env u) (fun _ s'=>∃ σ' H',Inv X pins σ' H' s'/\Q σ' H') X.xe s
def PGs(X:Cx)(ts:List Expr)(t:TGs):Prop :=
 ∀ (pins:List (Addr×Obj)) (s:Shared) (σ:St) (H:Hp) (vs:List V) (us:List Value) (Q:St->Hp->Prop),Inv X pins σ H s->Vals vs us->t vs σ H Q ->
  wpAny (model X.prog X.w) X.A (assignInOrder ((assignEach ts X.env).map (·.2)) us) (fun _ s'=>∃ σ' H',Inv X pins σ' H' s'/\Q σ' H') X.xe s
abbrev b5r:=V->V->V->Hp->(Hp->Prop)->Prop
def b7W(X:Cx)(t:b5r):Prop :=
 ∀ (pins:List (Addr×Obj)) (s:Shared) (σ:St) (H:Hp) (o i v:V) (ov iv u:Value) (Q:Hp->Prop),Inv X pins σ H s->RelV o ov->RelV i iv->RelV v u->t o i v H Q ->
  wpAny (model X.prog X.w) X.A (setItem ov iv u) (fun _ s'=>∃ H',Inv X pins σ H' s'/\Q H') X.xe s
abbrev TIp:=V->V->Hp->VK->Prop
def PIp(X:Cx)(op:Operator)(t:TIp):Prop :=
 ∀ (pins:List (Addr×Obj)) (s:Shared) (σ:St) (H:Hp) (x y:V) (v u:Value) (Q:VK),Inv X pins σ H s->RelV x v->RelV y u->t x y H Q ->
  wpAny (model X.prog X.w) X.A (inplaceOp op v u) (EP X pins σ Q) X.xe s
section
variable {X:Cx} {pos:Pos}
def a2V(i:Nat):TG:=fun v σ H Q=>Q (σ.set i (some v)) H
theorem b2w{i:Nat}{x:Str}(hN:X.N.Nodup)(hi:X.N[i]?=some x)(hx:Loc X.env.scope x)(hf:X.fn x=true\/X.env.scope.names.lookup x=some .local:=by trivial):PG X (.Name x pos) (a2V i):=by
 intro pins s σ H v u Q I r h;exact wpAny_assign_Name (W2 I hN hi hx r (fun s' I'=>⟨_,H,I',h⟩) hf)
def c0a:TGs:=fun vs σ H Q=>vs=[]/\Q σ H
def b7h(t:TG)(u:TGs):TGs:=fun vs σ H Q=>∃ v r,vs=v :: r/\t v σ H fun σ' H'=>u r σ' H' Q
theorem b0e:PGs X [] c0a:=by
 intro pins s σ H vs us Q I r h;obtain ⟨e,h⟩:=h;subst e;cases r;exact assignInOrder_nil ⟨σ,H,I,h⟩
theorem a7P{e:Expr}{es:List Expr}{t:TG}{u:TGs}(h1:PG X e t)(h2:PGs X es u)
  (hs:(assignEach (e :: es) X.env).map (·.2)=assign e X.env :: (assignEach es X.env).map (·.2):=by rfl):PGs X (e :: es) (b7h t u):=by
 intro pins s σ H vs us Q I r h;obtain ⟨v,vr,e1,h⟩:=h;subst e1
 cases r with
 |cons r rr =>
  rw [hs];refine assignInOrder_cons (thn (h1 pins s σ H _ _ _ I r h) fun _ s1 zz0=>?_);obtain ⟨σ1,H1,I1,q1⟩:=zz0;exact h2 pins s1 σ1 H1 _ _ Q I1 rr q1
def b9q(K:PySem.W.Frag)(n:Nat)(t:TGs):TG:=fun v σ H Q=>∃ a xs,v = .ref a/\SqT K H a xs/\xs.length=n/\t xs σ H Q
theorem b6m{es:List Expr}{k:Nat}{t:TGs}{n:Nat}(hc:X.calm=true)(h:PGs X es t)
  (hn:(assignEach es X.env).length=n:=by rfl) (hst:(assignEach es X.env).findIdx? (·.1)=none:=by rfl):PG X (.Tuple es k pos) (b9q X.K n t):=by
 intro pins s σ H v u Q I r hw;obtain ⟨a,xs,e1,hq,hl,hw⟩:=hw;subst e1;cases r;obtain ⟨its,rv,ht,hz⟩:=I.tuple hq;refine assign_Tuple_tuple (I.ok.hd hc) ht (by simp [hn,<- hl,rv.length]) hst fun h' hx=>?_;have I1:Inv X pins σ H { s with heap:=h' }:=I.kept (t':=s.toks) fun b o e=>hx b o (Nat.ne_of_lt (Heap.lt_size e)) e;exact h pins _ σ H xs _ Q I1 (by simpa using rv) hw
def b9i(to ti:TE)(t:b5r):TG:=fun v σ H Q=>to σ H fun o H1=>ti σ H1 fun i H2=>t o i v H2 fun H3=>Q σ H3
theorem b3P{o i:Expr}{to ti:TE}{t:b5r}(ho:PE X o to)(hi:PE X i ti)(hs:b7W X t)
  (ha:∀ v,assign (.Subscript o i pos) X.env v=(do
   let ov <- holding [v] (eval o X.env)
   let iv <- holding [v,ov] (eval i X.env)
   standAt pos
   holding [v,ov,iv] (setItem ov iv v)
   release [v,ov,iv] []):=by intro _;rfl):PG X (.Subscript o i pos) (b9i to ti t):=by
 intro pins s σ H v u Q I r h;rw [ha];refine wpAny_bind (wpAny_holding (thn (ho pins s σ H _ I h) fun ov s1 zz0=>?_));obtain ⟨x,H1,I1,r1,q1⟩:=zz0;refine wpAny_bind (wpAny_holding (thn (hi pins s1 σ H1 _ I1 q1) fun iv s2 zz0=>?_));obtain ⟨y,H2,I2,r2,q2⟩:=zz0;refine wpAny_bind (wpAny_standAt (wpAny_bind (wpAny_holding (thn (hs pins s2 σ H2 x y v ov iv u _ I2 r1 r2 r q2) fun _ s3 zz0=>?_))));obtain ⟨H3,I3,q3⟩:=zz0;exact wpAny_release ⟨σ,H3,I3,q3⟩
def a8g(te:TE)(g:TG):TS:=fun D σ H=>te σ H fun x H1=>g x σ H1 D.nx
theorem b4X{tg e:Expr}{te:TE}{g:TG}(he:PE X e te)(hg:PG X tg g)(hs:swapsWithSole [tg] e pos.line X.env=pure false:=by rfl)(hw:swappedStores [tg] e X.env=pure none:=by rfl)
  (h1:(assignEach [tg] X.env).map (·.2)=[assign tg X.env]:=by rfl):PS X (.Assign [tg] e pos) (a8g te g):=by
 intro pins s σ H D I h;refine wpAny_Assign_stores (thn (he pins s σ H _ I h) fun v s1 ⟨x,H1,I1,r1,q1⟩=>?_) hs hw;rw [h1];exact thn (hg pins s1 σ H1 x v _ I1 r1 q1) fun _ s2 q=>q
theorem b4n{i:Nat}{x:Str}{e:Expr}{te:TE}{pos':Pos}(hN:X.N.Nodup)(hi:X.N[i]?=some x)(hx:Loc X.env.scope x)(he:PE X e te)(hs:swapsWith e (some (.Name x pos')) pos.line X.env=pure false:=by rfl)(hf:X.fn x=true\/X.env.scope.names.lookup x=some .local:=by trivial) :
  PS X (.Assign [.Name x pos'] e pos) (a8g te (a2V i)):=by
 intro pins s σ H D I h;refine wpAny_Assign_Name (thn (he pins s σ H _ I h) fun v s1 zz0=>?_) hs;obtain ⟨y,H1,I1,r1,q1⟩:=zz0;exact W2 I1 hN hi hx r1 (fun s2 I2=>⟨_,H1,I2,q1⟩) hf
def b9g(i:Nat)(te:TE)(ti:TIp):TS:=fun D σ H=>∃ x,σ[i]?=some (some x)/\te σ H fun y H1=>ti x y H1 fun z H2=>D.nx (σ.set i (some z)) H2
theorem b3R{i:Nat}{x:Str}{e:Expr}{te:TE}{op:Operator}{ti:TIp}{pos':Pos}(hN:X.N.Nodup)(hi:X.N[i]?=some x)(hx:Loc X.env.scope x)(he:PE X e te)(ho:PIp X op ti)(hf:X.fn x=true\/X.env.scope.names.lookup x=some .local:=by trivial) :
  PS X (.AugAssign (.Name x pos') op e pos) (b9g i te ti):=by
 intro pins s σ H D I h;obtain ⟨v,e1,h⟩:=h;obtain ⟨m,hn,hl⟩:=I.loc;have vis:Vis X.env.scope x:=by rcases hx with k | k;exact .inl k;exact .inr (.inl k)
 obtain ⟨u,r,l⟩:=hl i x v hi e1 vis;refine wpAny_AugAssign_Name ?_
 have go:wpAny (model X.prog X.w) X.A (eval e X.env) (fun w s₂=>wpAny (model X.prog X.w) X.A (inplaceOp op u w) (fun r s₃=>wpAny (model X.prog X.w) X.A (storeName X.env x r) (fun _=>SP X pins D .next) X.xe s₃) X.xe s₂) X.xe s:=by
  refine thn (he pins s σ H _ I h) fun w s1 zz0=>?_;obtain ⟨y,H1,I1,r1,q1⟩:=zz0;refine thn (ho pins s1 σ H1 v y u w _ I1 r r1 q1) fun z s2 zz0=>?_;obtain ⟨zv,H2,I2,r2,q2⟩:=zz0;exact W2 I2 hN hi hx r2 (fun s3 I3=>⟨_,H2,I3,q2⟩) hf
 rcases l with ⟨hk,hm⟩ | ⟨hk,c,hc,hcell⟩
 ·exact wpAny_loadName_local I.ok.kind hk hn hm go
 ·rcases hk with hk | hk
  ·exact wpAny_loadName_cell I.ok.kind hk hc hcell go
  ·rcases hx with k | k
   ·have:X.env.scope.names.lookup x=some .free:=hk
    rw [k] at this;cases this
   ·have:X.env.scope.names.lookup x=some .free:=hk
    rw [k] at this;cases this
end
section
variable {X:Cx} {pos:Pos}
def b4W(c:TT)(tb:TS):TS:=fun D σ H=>∃ W:Nat->St->Hp->Prop,(∃ m,W m σ H)/\∀ m σ H,W m σ H ->
 c σ H fun b H1=>if b=true then ∃ N:St->Hp->Prop,(∀ σ' H',N σ' H'->∃ m',m' < m/\W m' σ' H')/\tb { D with nx:=N,ct:=N,bk:=D.nx } σ H1 else D.nx σ H1
theorem a9f{c:Expr}{body:List Stmt}{tc:TT}{tb:TS}(hp:PassesOwn (model X.prog X.w) X.A X.env X.xe)(hc:PT X c tc)(hb:PSs X body tb):PS X (.While c body [] pos) (b4W tc tb):=by
 intro pins s σ H D I h;obtain ⟨W,⟨m0,w0⟩,turn⟩:=h;refine wpAny_While (codeAny_whileLoop (fun n s'=>∃ σ' H',Inv X pins σ' H' s'/\W n σ' H') ?_ m0 ⟨σ,H,I,w0⟩)
 rintro n s1 ⟨σ1,H1,I1,w1⟩
 refine wpAny_passesOwn hp (thn (hc pins s1 σ1 H1 _ I1 (turn n σ1 H1 w1)) fun b s2 zz0=>?_);obtain ⟨H2,I2,q2⟩:=zz0
 cases b with
 |true =>
  obtain ⟨N,hN,q2⟩:=q2;rw [if_pos rfl];refine wpAny_passesOwn hp (thn (hb pins s2 σ1 H2 _ I2 q2) fun f s3 q3=>?_)
  cases f with
  |next =>
   obtain ⟨σ3,H3,I3,n3⟩:=q3;obtain ⟨m',hm,w3⟩:=hN σ3 H3 n3;exact ⟨m',hm,σ3,H3,I3,w3⟩
  |cont =>
   obtain ⟨σ3,H3,I3,n3⟩:=q3;obtain ⟨m',hm,w3⟩:=hN σ3 H3 n3;exact ⟨m',hm,σ3,H3,I3,w3⟩
  |brk=>exact q3
  |ret v=>exact q3
 |false =>
  rw [if_neg Bool.false_ne_true];exact wpAny_execs_nil ⟨σ1,H2,I2,q2⟩
end
structure It where
 go:Nat->Hp->Prop
 yld:Nat->Hp->V->Hp->Prop
 stop:Nat->Hp->Prop
def V9(X:Cx)(pins:List (Addr×Obj))(H:Hp)(b:Addr):Prop :=
 H b=none/\b ≠ X.env.locals/\b ∉ X.fs/\(b ∈ X.ex\/X.s₀.heap.objs.size <= b)/\(∀ x c,X.env.cells.lookup x=some c->c ≠ b)/\∀ p ∈ X.pn ++ pins,p.1 ≠ b
theorem Inv.fpOk{X:Cx}{pins:List (Addr×Obj)}{σ:St}{H H':Hp}{s:Shared}{b:Addr}(I:Inv X pins σ H s)(hb:s.heap.objs.size <= b)(hn:H' b=none):V9 X pins H' b:=by
 refine ⟨hn,Nat.ne_of_gt (Nat.lt_of_lt_of_le I.lt hb),I.nofs hb,.inr (Nat.le_trans I.sz hb),fun x c e z=>?_,fun p hp z=>?_⟩
 ·obtain ⟨v,q⟩:=I.cell x c e;exact absurd (Nat.lt_of_lt_of_le q.lt (by rw [z];exact hb)) (Nat.lt_irrefl _)
 ·exact absurd (Nat.lt_of_lt_of_le (Heap.lt_size (I.pin p hp).1) (by rw [z];exact hb)) (Nat.lt_irrefl _)
structure a3i(P:Program)(w:World)(K:PySem.W.Frag)(tg:Expr)(J:It)(fp:List Addr)(it:Addr)(tn:Nat->Heap->Prop):Prop where
 mem:it ∈ fp
 obj:∀ i h,tn i h->∀ b ∈ fp,∃ o,h.get? b=some o/\∀ v,o.data ≠ .cell v
 keep:∀ i h h',tn i h->(∀ b ∈ fp,∀ o,h.get? b=some o->h'.get? b=some o)->tn i h'
 item:∀ (X:Cx),X.prog=P->X.w=w->X.K=K->X.calm=true->∀ (i:Nat) (pins:List (Addr×Obj)) (s:Shared) (σ:St) (H:Hp) (E:Value->Shared->Prop),Inv X pins σ H s->(∀ b ∈ fp,V9 X pins H b)->tn i s.heap->J.go i H ->
  wpAny (model P w) X.A (pyNext (.ref it)) (fun r s1=>∃ u,r=some u /\
   wpAny (model P w) X.A (letOwnedTupleGo tg (.ref it) u) (fun _ s2=>∃ x H',Inv X pins σ H' s2/\RelV x u/\J.yld i H x H'/\tn (i + 1) s2.heap/\∀ b ∈ fp,H' b=none) E s1) E s
 done:∀ (X:Cx),X.prog=P->X.w=w->X.K=K->X.calm=true->∀ (i:Nat) (pins:List (Addr×Obj)) (s:Shared) (σ:St) (H:Hp) (E:Value->Shared->Prop),Inv X pins σ H s->(∀ b ∈ fp,V9 X pins H b)->tn i s.heap->J.stop i H ->
  wpAny (model P w) X.A (pyNext (.ref it)) (fun r s1=>r=none/\Inv X pins σ H s1) E s
 self:∀ (A:Around) (i:Nat) (s:Shared) (Q:Value->Shared->Prop) (E:Value->Shared->Prop),tn i s.heap->Q (.ref it) s->wpAny (model P w) A (pyIter (.ref it)) Q E s
abbrev TI:=St->Hp->(It->Hp->Prop)->Prop
def PIE(X:Cx)(pins:List (Addr×Obj))(σ:St)(tg:Expr)(R:It->Hp->Prop)(itv:Value)(s2:Shared):Prop :=
 ∃ (it:Addr) (fp:List Addr) (tn:Nat->Heap->Prop) (J:It) (H':Hp),itv = .ref it/\Inv X pins σ H' s2/\a3i X.prog X.w X.K tg J fp it tn/\tn 0 s2.heap/\(∀ b ∈ fp,V9 X pins H' b)/\R J H'
def PI(X:Cx)(tg iter:Expr)(wi:TI):Prop :=
 ∀ (pins:List (Addr×Obj)) (s:Shared) (σ:St) (H:Hp) (R:It->Hp->Prop),Inv X pins σ H s->wi σ H R ->
  wpAny (model X.prog X.w) X.A (eval iter X.env) (fun v s1=>wpAny (model X.prog X.w) X.A (pyIter v) (PIE X pins σ tg R) X.xe s1) X.xe s
theorem a4N{M:Model}{A:Around}{E:Value->Shared->Prop}{s:Shared}{tg:Expr}{it:Addr}{u:Value}{o:Obj}{n:String}{vs:Array Value}{Q:Unit->Shared->Prop}(ho:s.heap.get? it=some o)(hc:o.cls = .type n)(hd:o.data = .fields vs)
  (hn:["enumerate","zip","dict_itemiterator","dict_reverseitemiterator","odict_iterator","itertools.zip_longest","itertools.pairwise"].contains n=false) (hQ:Q () s):wpAny M A (letOwnedTupleGo tg (.ref it) u) Q E s:=by
 unfold letOwnedTupleGo
 cases tg <;> first
  |exact wpAny_pure hQ
  |(cases u <;> first
    |exact wpAny_pure hQ
    |(refine wpAny_bind (wpAny_load ho ?_)
      rw [hc,hd];show wpAny M A (if (["enumerate","zip","dict_itemiterator","dict_reverseitemiterator","odict_iterator","itertools.zip_longest","itertools.pairwise"].contains n && vs[0]? == some (rawInt _))=true then _ else _) Q E s;rw [if_neg (by intro h;rw [hn,Bool.false_and] at h;cases h)];exact wpAny_pure hQ))
def Itl(K:PySem.W.Frag)(a:Addr):It :=
 ⟨fun i H=>∃ xs x,SqL K H a xs/\xs[i]?=some x,fun i H x H'=>H'=H/\∀ xs,SqL K H a xs->xs[i]?=some x,fun i H=>∃ xs,SqL K H a xs/\xs.length <= i⟩
def Itt(K:PySem.W.Frag)(a:Addr):It :=
 ⟨fun i H=>∃ xs x,SqT K H a xs/\xs[i]?=some x,fun i H x H'=>H'=H/\∀ xs,SqT K H a xs->xs[i]?=some x,fun i H=>∃ xs,SqT K H a xs/\xs.length <= i⟩
def Itr(lo:Int)(n:Nat):It:=⟨fun i _=>i < n,fun i H x H'=>H'=H/\x = .int (lo + i),fun i _=>n <= i⟩
theorem a5A{P:Program}{w:World}{K:PySem.W.Frag}{tg:Expr}(a it:Addr):a3i P w K tg (Itl K a) [it] it (fun i h=>h.IsListIter it a i) where
 mem:=by simp
 obj:=fun i h st b hb=>by
  have e:b=it:=by simpa using hb
  subst e;obtain ⟨o,e,c,d⟩:=st;exact ⟨o,e,fun v z=>by rw [d] at z;cases z⟩
 keep:=fun i h h' st k=>st.at fun o e=>k it (by simp) o e
 item:=by
  intro X hP hw hK hc i pins s σ H E I hf st hg;subst hP hw hK;obtain ⟨xs,x,hq,hx⟩:=hg;obtain ⟨its,rv,p,hz⟩:=I.list hq;obtain ⟨u,hu,ru⟩:=rv.get hx;obtain ⟨f0,f1,f2,f3,f4,f5⟩:=hf it (by simp);refine wpAny_pyNext_list_item st p.isList (x:=u) (by simpa using hu) fun h' st' sb=>?_;have I1:Inv X pins σ H { s with heap:=h' }:=I.turned (t':=s.toks) (fun b o hb e=>(sb.2 b hb).trans e) f0 f1 f3 f4 f5;obtain ⟨o,e,c,d⟩:=id st';exact ⟨u,rfl,a4N (s:={ s with heap:=h' }) e c d (by decide) ⟨x,H,I1,ru,⟨rfl,fun ys hy=>by rw [I.list_inj hy hq];exact hx⟩,st',fun b hb=>(hf b hb).1⟩⟩
 done:=by
  intro X hP hw hK hc i pins s σ H E I hf st hg;subst hP hw hK;obtain ⟨xs,hq,hx⟩:=hg;obtain ⟨its,rv,p,hz⟩:=I.list hq;obtain ⟨f0,f1,f2,f3,f4,f5⟩:=hf it (by simp);have hl:=rv.length;exact wpAny_pyNext_list_end (I.ok.hd hc) st p.isList (by simp;omega) fun h' eb=>⟨rfl,I.turned (t':=s.toks) (fun b o hb e=>eb b o hb e) f0 f1 f3 f4 f5⟩
 self:=fun _ _ _ _ _ st h=>wpAny_pyIter_listiter st h
theorem a3Y{P:Program}{w:World}{K:PySem.W.Frag}{tg:Expr}(a it:Addr):a3i P w K tg (Itt K a) [it] it (fun i h=>h.IsTupleIter it a i) where
 mem:=by simp
 obj:=fun i h st b hb=>by
  have e:b=it:=by simpa using hb
  subst e;obtain ⟨o,e,c,d⟩:=st;exact ⟨o,e,fun v z=>by rw [d] at z;cases z⟩
 keep:=fun i h h' st k=>st.at fun o e=>k it (by simp) o e
 item:=by
  intro X hP hw hK hc i pins s σ H E I hf st hg;subst hP hw hK;obtain ⟨xs,x,hq,hx⟩:=hg;obtain ⟨its,rv,p,hz⟩:=I.tuple hq;obtain ⟨u,hu,ru⟩:=rv.get hx;obtain ⟨f0,f1,f2,f3,f4,f5⟩:=hf it (by simp);refine wpAny_pyNext_tuple_item st (show s.heap.IsTuple a its.toArray from p) (x:=u) (by simpa using hu) fun h' st' sb=>?_;have I1:Inv X pins σ H { s with heap:=h' }:=I.turned (t':=s.toks) (fun b o hb e=>(sb.2 b hb).trans e) f0 f1 f3 f4 f5;obtain ⟨o,e,c,d⟩:=id st';exact ⟨u,rfl,a4N (s:={ s with heap:=h' }) e c d (by decide) ⟨x,H,I1,ru,⟨rfl,fun ys hy=>by rw [I.tuple_inj hy hq];exact hx⟩,st',fun b hb=>(hf b hb).1⟩⟩
 done:=by
  intro X hP hw hK hc i pins s σ H E I hf st hg;subst hP hw hK;obtain ⟨xs,hq,hx⟩:=hg;obtain ⟨its,rv,p,hz⟩:=I.tuple hq;obtain ⟨f0,f1,f2,f3,f4,f5⟩:=hf it (by simp);have hl:=rv.length;exact wpAny_pyNext_tuple_end (I.ok.hd hc) st (show s.heap.IsTuple a its.toArray from p) (by simp;omega) fun h' eb=>⟨rfl,I.turned (t':=s.toks) (fun b o hb e=>eb b o hb e) f0 f1 f3 f4 f5⟩
 self:=fun _ _ _ _ _ st h=>wpAny_pyIter_tupleiter st h
theorem a3X{P:Program}{w:World}{K:PySem.W.Frag}{tg:Expr}(it:Addr)(lo:Int)(n:Nat):a3i P w K tg (Itr lo n) [it] it (fun i h=>IsRangeIter h it (lo + (i:Nat) * 1) ((n:Int) - (i:Nat)) 1) where
 mem:=by simp
 obj:=fun i h st b hb=>by
  have e:b=it:=by simpa using hb
  subst e
  exact ⟨_,st,fun v z=>by
   have z':Data.fields _=Data.cell v:=z
   cases z'⟩
 keep:=fun i h h' st k=>k it (by simp) _ st
 item:=by
  intro X hP hw hK hc i pins s σ H E I hf st hg;subst hP hw hK;obtain ⟨f0,f1,f2,f3,f4,f5⟩:=hf it (by simp);have W:=Walks.range (prog:=X.prog) (w:=X.w) (I.ok.hd hc) it lo 1 n;refine W.item i s _ _ hg st fun v h' tk hv st' kk=>?_;obtain ⟨t,rfl⟩:=hv;have I1:Inv X pins σ H { s with heap:=h',toks:=tk }:=I.turned (fun b o hb e=>kk b o (by simpa using hb) e) f0 f1 f3 f4 f5;refine ⟨_,rfl,a4N (s:={ s with heap:=h',toks:=tk }) (n:= "range_iterator") st' rfl rfl (by decide) ⟨.int (lo + i),H,I1,⟨t,?_⟩,⟨rfl,rfl⟩,st',fun b hb=>(hf b hb).1⟩⟩;rw [Int.mul_one]
 done:=by
  intro X hP hw hK hc i pins s σ H E I hf st hg;subst hP hw hK;obtain ⟨f0,f1,f2,f3,f4,f5⟩:=hf it (by simp);exact wpAny_pyNext_range_end (I.ok.hd hc) st (by have:n <= i:=hg;omega) fun h' eb=>⟨rfl,I.turned (t':=s.toks) (fun b o hb e=>eb b o hb e) f0 f1 f3 f4 f5⟩
 self:=fun _ _ _ _ _ st h=>wpAny_pyIter_rangeiter st h
end L2
namespace L2
open PySem PySem.Spec PyProof.Rows
section
variable {X:Cx} {tg:Expr}
theorem a9n{pins:List (Addr×Obj)}{σ:St}{H:Hp}{s:Shared}{R:It->Hp->Prop}{E:Value->Shared->Prop}{lo hi:Int}{t u v:Tok}{tk:Nat}(I:Inv X pins σ H s)(h1:-(2 ^ 62) <= lo)(h2:lo < 2 ^ 62)(h3:-(2 ^ 62) <= hi)(h4:hi < 2 ^ 62)
  (q:R (Itr lo (hi - lo).toNat) H):wpAny (model X.prog X.w) X.A (pyIter (.ref s.heap.objs.size)) (PIE X pins σ tg R) E { s with heap:=s.heap.push { cls:=.type "range",data:=.fields #[.int lo t,.int hi u,.int 1 v] },toks:=tk }:=by
 refine wpAny_pyIter_range (IsRange.new ..) (small_one h1 h2 h3 h4) ?_;have I1:Inv X pins σ H { s with heap:=s.heap.push { cls:=.type "range",data:=.fields #[.int lo t,.int hi u,.int 1 v] },toks:=tk }:=I.kept fun b o e=>Heap.get?_push_of_some _ e
 refine ⟨(s.heap.push { cls:=.type "range",data:=.fields #[.int lo t,.int hi u,.int 1 v] }).objs.size,[(s.heap.push { cls:=.type "range",data:=.fields #[.int lo t,.int hi u,.int 1 v] }).objs.size],_,_,H,rfl,
  I1.kept (t':=tk) fun b o e=>Heap.get?_push_of_some _ e,a3X _ lo (hi - lo).toNat,?_,fun b hb=>?_,q⟩
 ·have e1:lo + ((0:Nat):Int) * 1=lo:=by simp
  have e2:(((hi - lo).toNat:Nat):Int) - ((0:Nat):Int)=Builtin.Range.rangeSize lo hi 1:=by rw [rangeSize_one];split <;> omega
  show IsRangeIter _ _ (lo + ((0:Nat):Int) * 1) ((((hi - lo).toNat:Nat):Int) - ((0:Nat):Int)) 1;rw [e1,e2];exact Heap.get?_push_size _ rfl
 ·have e:b=(s.heap.push { cls:=.type "range",data:=.fields #[.int lo t,.int hi u,.int 1 v] }).objs.size:=by simpa using hb
  subst e;exact I1.fpOk (Nat.le_refl _) (I1.hok.fresh (Nat.le_refl _))
def b7R(ta:TA):TI:=fun σ H R=>ta σ H fun vs H1=>∃ j:Int,vs=[.int j]/\-(2 ^ 62) <= j/\j < 2 ^ 62/\R (Itr 0 j.toNat) H1
theorem a5q{a:Expr}{ta:TA}{p pos:Pos}(hg:Gl X "range")(hm:X.mg "range" = none)(ha:PA X [a] ta)(hs:starEach [a] X.env=[(false,eval a X.env)]:=by rfl):PI X tg (.Call (.Name "range" p) [a] [] pos) (b7R ta):=by
 intro pins s σ H R I h;refine Call_ (M1 I hg hm boot_range (PyProof.Rows.callWith_type1 (thn (ha pos pins s σ H _ I h) fun us s1 ⟨vs,H1,I1,r1,q1⟩=>?_) hs rfl));obtain ⟨j,e,q1,q2,q⟩:=q1;subst e
 cases r1 with
 |cons r rr =>
  cases rr;obtain ⟨t,rfl⟩:=r;exact call_range_1 (a9n I1 (by omega) (by omega) q1 q2 (by simpa using q))
def b9K(wi:TI)(g:TG)(tb:TS):TS:=fun D σ H=>wi σ H fun J H1=>∃ W:Nat->Nat->St->Hp->Prop,(∃ m,W 0 m σ H1)/\∀ i m σ H,W i m σ H ->
 (J.stop i H/\D.nx σ H)\/(J.go i H/\∃ N:St->Hp->Prop,(∀ σ' H',N σ' H'->∃ m',m' < m/\W (i + 1) m' σ' H')/\∀ x H',J.yld i H x H'->g x σ H' fun σ2 H2=>tb { D with nx:=N,ct:=N,bk:=D.nx } σ2 H2)
def X1(fp:List Addr)(h:Heap):List (Addr×Obj):=fp.filterMap fun b=>(h.get? b).map fun o=>(b,o)
theorem N5{fp:List Addr}{h:Heap}{b:Addr}{o:Obj}(hb:b ∈ fp)(e:h.get? b=some o):(b,o) ∈ X1 fp h:=List.mem_filterMap.mpr ⟨b,hb,by rw [e];rfl⟩
theorem a5L{fp:List Addr}{h:Heap}{p:Addr×Obj}(hp:p ∈ X1 fp h):p.1 ∈ fp/\h.get? p.1=some p.2:=by
 obtain ⟨b,hb,e⟩:=List.mem_filterMap.mp hp
 cases q:h.get? b with
 |none=>rw [q] at e;cases e
 |some o =>
  rw [q] at e;have e':(b,o)=p:=Option.some.inj e;subst e';exact ⟨hb,q⟩
theorem Inv.pinned{pins:List (Addr×Obj)}{σ:St}{H:Hp}{s:Shared}{fp:List Addr}(I:Inv X pins σ H s)(hf:∀ b ∈ fp,V9 X pins H b)(ho:∀ b ∈ fp,∃ o,s.heap.get? b=some o/\∀ v,o.data ≠ .cell v):Inv X (pins ++ X1 fp s.heap) σ H s :=
 I.pins_of fun p hp=>(List.mem_append.mp hp).elim (fun z=>I.pin p (List.mem_append_right _ z)) fun z=>by
  obtain ⟨hb,e⟩:=a5L z;obtain ⟨f0,f1,f2,_⟩:=hf p.1 hb;obtain ⟨o,e',d⟩:=ho p.1 hb;rw [e] at e';cases e'
  exact ⟨e,f0,f1,f2,d⟩
theorem Inv.unpinned{pins pl:List (Addr×Obj)}{σ:St}{H:Hp}{s:Shared}(I:Inv X (pins ++ pl) σ H s):Inv X pins σ H s:=I.pins_of fun p hp=>I.pin p (List.mem_append_right _ (List.mem_append_left _ hp))
theorem b4F{iter:Expr}{body:List Stmt}{wi:TI}{g:TG}{tb:TS}{pos:Pos}(hp:PassesOwn (model X.prog X.w) X.A X.env X.xe)(hc:X.calm=true)(hi:PI X tg iter wi)(hg:PG X tg g)(hb:PSs X body tb)
  (hs:∀ x,foldedSetIterable iter X.env x=pure x:=by intro _;rfl):PS X (.For tg iter body [] pos) (b9K wi g tb):=by
 intro pins s σ H D I h;refine wpAny_For (thn (hi pins s σ H _ I h) fun v s1 h1=>thn h1 fun itv s2 h2=>?_) hs;obtain ⟨it,fp,tn,J,H2,e,I2,T,st2,f2,W,⟨m0,w0⟩,turn⟩:=h2;subst e;have stat:∀ {H':Hp},(∀ b ∈ fp,H' b=none)->∀ b ∈ fp,V9 X pins H' b:=fun hn b hb=>⟨hn b hb,(f2 b hb).2⟩
 refine codeAny_forLoop_any (fun n s'=>∃ i σ' H',Inv X pins σ' H' s'/\tn i s'.heap/\(∀ b ∈ fp,H' b=none)/\W i n σ' H') ?_ m0 ⟨0,σ,H2,I2,st2,fun b hb=>(f2 b hb).1,w0⟩
 rintro n s3 ⟨i,σ3,H3,I3,st3,fr3,w3⟩
 rcases turn i n σ3 H3 w3 with ⟨stop,qn⟩ | ⟨go,N,hN,step⟩
 ·refine wpAny_passesOwn hp (thn (T.done X rfl rfl rfl hc i pins s3 σ3 H3 X.xe I3 (stat fr3) st3 stop) fun r s4 zz0=>?_);obtain ⟨hr,I4⟩:=zz0;subst hr;exact wpAny_execs_nil ⟨σ3,H3,I4,qn⟩
 ·refine wpAny_passesOwn hp (thn (T.item X rfl rfl rfl hc i pins s3 σ3 H3 X.xe I3 (stat fr3) st3 go) fun r s4 zz0=>?_);obtain ⟨u,hr,h4⟩:=zz0;subst hr;refine wpAny_passesOwn hp (thn h4 fun _ s5 zz0=>?_);obtain ⟨x,H5,I5,r5,y5,st5,fr5⟩:=zz0;have I5':=I5.pinned (stat fr5) (T.obj _ _ st5);refine wpAny_passesOwn hp (thn (hg _ s5 σ3 H5 x u _ I5' r5 (step x H5 y5)) fun _ s6 zz0=>?_);obtain ⟨σ6,H6,I6,q6⟩:=zz0;refine wpAny_passesOwn hp (thn (hb _ s6 σ6 H6 _ I6 q6) fun f s7 q7=>?_)
  have again:∀ {σ7:St} {H7:Hp},Inv X (pins ++ X1 fp s5.heap) σ7 H7 s7->N σ7 H7->∃ m,m < n/\∃ i σ' H',Inv X pins σ' H' s7/\tn i s7.heap/\(∀ b ∈ fp,H' b=none)/\W i m σ' H':=fun {σ7 H7} I7 n7=>by
   obtain ⟨m',hm,w7⟩:=hN σ7 H7 n7;refine ⟨m',hm,i + 1,σ7,H7,I7.unpinned,T.keep _ _ _ st5 fun b hb o e=>(I7.pin (b,o) (List.mem_append_right _ (List.mem_append_right _ (N5 hb e)))).1,fun b hb=>?_,w7⟩;obtain ⟨o,e,d⟩:=T.obj _ _ st5 b hb;exact (I7.pin (b,o) (List.mem_append_right _ (List.mem_append_right _ (N5 hb e)))).2.1
  cases f with
  |next=>obtain ⟨σ7,H7,I7,n7⟩:=q7;exact again I7 n7
  |cont=>obtain ⟨σ7,H7,I7,n7⟩:=q7;exact again I7 n7
  |brk=>obtain ⟨σ7,H7,I7,q7⟩:=q7;exact ⟨σ7,H7,I7.unpinned,q7⟩
  |ret v=>obtain ⟨x7,σ7,H7,I7,r7,q7⟩:=q7;exact ⟨x7,σ7,H7,I7.unpinned,r7,q7⟩
end
end L2
namespace L2
open PySem PySem.Spec PyProof.Rows
abbrev R2:=V->V->Hp->VK->Prop
def OpR(X:Cx)(f:Value->Value->Sem Value)(r:R2):Prop :=
 ∀ (pins:List (Addr×Obj)) (s:Shared) (σ:St) (H:Hp) (x y:V) (v u:Value) (Q:VK),Inv X pins σ H s->RelV x v->RelV y u->r x y H Q ->
  wpAny (model X.prog X.w) X.A (f v u) (EP X pins σ Q) X.xe s
def UnR(X:Cx)(f:Value->Sem Value)(r:V->Hp->VK->Prop):Prop :=
 ∀ (pins:List (Addr×Obj)) (s:Shared) (σ:St) (H:Hp) (x:V) (v:Value) (Q:VK),Inv X pins σ H s->RelV x v->r x H Q ->
  wpAny (model X.prog X.w) X.A (f v) (EP X pins σ Q) X.xe s
def CallR(X:Cx)(f:Value)(r:List V->Hp->VK->Prop):Prop :=
 ∀ (pins:List (Addr×Obj)) (s:Shared) (σ:St) (H:Hp) (xs:List V) (us:List Value) (Q:VK),Inv X pins σ H s->Vals xs us->r xs H Q ->
  wpAny (model X.prog X.w) X.A (call f us) (EP X pins σ Q) X.xe s
def b9T(X:Cx)(r:V->Hp->(Bool->Hp->Prop)->Prop):Prop :=
 ∀ (pins:List (Addr×Obj)) (s:Shared) (σ:St) (H:Hp) (x:V) (v:Value) (Q:Bool->Hp->Prop),Inv X pins σ H s->RelV x v->r x H Q ->
  wpAny (model X.prog X.w) X.A (truthy v) (TP X pins σ Q) X.xe s
def tOp(r:R2)(ta tb:TE):TE:=fun σ H Q=>ta σ H fun x H1=>tb σ H1 fun y H2=>r x y H2 Q
def tUn(r:V->Hp->VK->Prop)(ta:TE):TE:=fun σ H Q=>ta σ H fun x H1=>r x H1 Q
def rI(C:Int->Int->Prop)(g:Int->Int->V):R2:=fun x y H Q=>∃ i j,x = .int i/\y = .int j/\C i j/\Q (g i j) H
def rI0(g:Int->Int->V):R2:=fun x y H Q=>∃ i j,x = .int i/\y = .int j/\Q (g i j) H
def rU(g:Int->V):V->Hp->VK->Prop:=fun x H Q=>∃ i,x = .int i/\Q (g i) H
section
variable {X:Cx} {a b c:Expr} {ta tb tc:TE} {pos:Pos}
theorem b5L(ha:PE X a ta)(hb:PE X b tb){pins:List (Addr×Obj)}{s:Shared}{σ:St}{H:Hp}{R:V->V->Hp->Prop}(I:Inv X pins σ H s)
  (h:ta σ H fun x H1=>tb σ H1 fun y H2=>R x y H2) {Q:Value->Shared->Prop} {f:Value->Value->Sem Value}
  (hf:∀ v u s2 x y H2,Inv X pins σ H2 s2->RelV x v->RelV y u->R x y H2->wpAny (model X.prog X.w) X.A (f v u) Q X.xe s2) :
  wpAny (model X.prog X.w) X.A (eval a X.env) (fun v s₁=>wpAny (model X.prog X.w) X.A (eval b X.env) (fun u s₂=>wpAny (model X.prog X.w) X.A (f v u) Q X.xe s₂) X.xe s₁) X.xe s:=by
 refine thn (ha pins s σ H _ I h) fun v s1 zz0=>?_;obtain ⟨x,H1,I1,r1,q1⟩:=zz0;refine thn (hb pins s1 σ H1 _ I1 q1) fun u s2 zz0=>?_;obtain ⟨y,H2,I2,r2,q2⟩:=zz0;exact hf v u s2 x y H2 I2 r1 r2 q2
theorem b8E{op:Operator}{r:R2}(ho:OpR X (binaryOp op) r)(ha:PE X a ta)(hb:PE X b tb):PE X (.BinOp a op b pos) (tOp r ta tb):=by
 intro pins s σ H Q I h;exact wpAny_BinOp (b5L ha hb I h fun v u s2 x y H2 I2 rx ry q=>ho pins s2 σ H2 x y v u Q I2 rx ry q)
theorem b6S{op:UnaryOp}{r:V->Hp->VK->Prop}(ho:UnR X (unaryOp op) r)(ha:PE X a ta):PE X (.UnaryOp op a pos) (tUn r ta):=by
 intro pins s σ H Q I h;exact UnaryOp_ (thn (ha pins s σ H _ I h) fun v s1 ⟨x,H1,I1,r1,q1⟩=>ho pins s1 σ H1 x v Q I1 r1 q1)
theorem opI{f:Value->Value->Sem Value}{C:Int->Int->Prop}{g:Int->Int->Int}
  (rule:∀ (i j:Int) (t u:Tok) (s:Shared) (Q:Value->Shared->Prop) (E:Value->Shared->Prop),C i j->Q (.int (g i j) s.toks) { s with toks:=s.toks + 1 }->wpAny (model X.prog X.w) X.A (f (.int i t) (.int j u)) Q E s) :
  OpR X f (rI C fun i j=>.int (g i j)):=by
 intro pins s σ H x y v u Q I rx ry h;obtain ⟨i,j,rfl,rfl,hc,q⟩:=h;obtain ⟨t,rfl⟩:=rx;obtain ⟨t',rfl⟩:=ry;exact rule i j t t' s _ _ hc ⟨.int (g i j),H,I.tok _,⟨_,rfl⟩,q⟩
theorem a7N{f:Value->Value->Sem Value}{g:Int->Int->Int}
  (rule:∀ (i j:Int) (t u:Tok) (s:Shared) (Q:Value->Shared->Prop) (E:Value->Shared->Prop),Q (.int (g i j) s.toks) { s with toks:=s.toks + 1 }->wpAny (model X.prog X.w) X.A (f (.int i t) (.int j u)) Q E s) :
  OpR X f (rI0 fun i j=>.int (g i j)):=by
 intro pins s σ H x y v u Q I rx ry h;obtain ⟨i,j,rfl,rfl,q⟩:=h;obtain ⟨t,rfl⟩:=rx;obtain ⟨t',rfl⟩:=ry;exact rule i j t t' s _ _ ⟨.int (g i j),H,I.tok _,⟨_,rfl⟩,q⟩
theorem b1n{f:Value->Value->Sem Value}{g:Int->Int->Bool}
  (rule:∀ (i j:Int) (t u:Tok) (s:Shared) (Q:Value->Shared->Prop) (E:Value->Shared->Prop),Q (.bool (g i j)) s->wpAny (model X.prog X.w) X.A (f (.int i t) (.int j u)) Q E s) :
  OpR X f (rI0 fun i j=>.bl (g i j)):=by
 intro pins s σ H x y v u Q I rx ry h;obtain ⟨i,j,rfl,rfl,q⟩:=h;obtain ⟨t,rfl⟩:=rx;obtain ⟨t',rfl⟩:=ry;exact rule i j t t' s _ _ ⟨.bl (g i j),H,I,rfl,q⟩
def b0X(i j:Int):Prop:=0 <= j/\j <= 1000000/\i.natAbs < 2 ^ 64
theorem a3B(k:Nat):(0:Int) <= 2 ^ k:=by
 rw [two_pow_cast];exact Int.natCast_nonneg _
theorem op_add:OpR X (binaryOp .Add) (rI0 fun i j=>.int (i + j)):=a7N fun _ _ _ _ _ _ _ q=>add_int q
theorem b5v:OpR X (binaryOp .Sub) (rI0 fun i j=>.int (i - j)):=a7N fun _ _ _ _ _ _ _ q=>sub_int q
theorem b4R:OpR X (binaryOp .Mod) (rI (fun _ j=>0 < j) fun i j=>.int (i % j)):=opI fun i j _ _ _ _ _ hc q=>by
 have h1:(0:Int) < j:=hc;exact mod_int' (by omega) (by rw [Int.fmod_eq_emod_of_nonneg i (by omega)];exact q)
theorem b3T:OpR X (binaryOp .Pow) (rI b0X fun i j=>.int (i ^ j.toNat)):=opI fun _ _ _ _ _ _ _ hc q=>pow_int_small hc.1 hc.2.1 hc.2.2 q
theorem b5l:OpR X (binaryOp .LShift) (rI b0X fun i j=>.int (i * 2 ^ j.toNat)):=opI fun _ _ _ _ _ _ _ hc q=>lshift_int_small hc.1 hc.2.1 hc.2.2 q
theorem b5h:OpR X (binaryOp .RShift) (rI (fun _ j=>0 <= j) fun i j=>.int (i / 2 ^ j.toNat)):=opI fun i j _ _ _ _ _ hc q =>
 rshift_int hc (by rw [Int.fdiv_eq_ediv_of_nonneg i (a3B _)];exact q)
theorem b6k:OpR X (binaryOp .BitAnd) (rI0 fun i j=>.int (Builtin.bitAnd i j)):=a7N fun _ _ _ _ _ _ _ q=>and_int q
theorem b8C:OpR X (binaryOp .BitOr) (rI0 fun i j=>.int (Builtin.bitOr i j)):=a7N fun _ _ _ _ _ _ _ q=>or_int q
theorem b0u:OpR X (inplaceOp .Add) (rI0 fun i j=>.int (i + j)):=a7N fun _ _ _ _ _ _ _ q=>iadd_int q
theorem unI{f:Value->Sem Value}{g:Int->Int}
  (rule:∀ (i:Int) (t:Tok) (s:Shared) (Q:Value->Shared->Prop) (E:Value->Shared->Prop),Q (.int (g i) s.toks) { s with toks:=s.toks + 1 }->wpAny (model X.prog X.w) X.A (f (.int i t)) Q E s) :
  UnR X f (rU fun i=>.int (g i)):=by
 intro pins s σ H x v Q I rx h;obtain ⟨i,rfl,q⟩:=h;obtain ⟨t,rfl⟩:=rx;exact rule i t s _ _ ⟨.int (g i),H,I.tok _,⟨_,rfl⟩,q⟩
theorem b5N:UnR X (unaryOp .USub) (rU fun i=>.int (-i)):=unI fun _ _ _ _ _ q=>neg_int q
end
section
variable {X:Cx} {a b c:Expr} {ta tb tc:TE} {pos:Pos}
theorem b4p{pins:List (Addr×Obj)}{σ:St}{H:Hp}{s:Shared}{Q:VK}{k k':Bool}(I:Inv X pins σ H s)(q:Q (.bl k) H)(e:k=k'):EP X pins σ Q (.bool k') s:=by
 subst e;exact ⟨.bl k,H,I,rfl,q⟩
theorem b7D:OpR X (compareOp .Lt) (rI0 fun i j=>.bl (decide (i < j))):=b1n fun _ _ _ _ _ _ _ q=>lt_int q
theorem b7y:OpR X (compareOp .LtE) (rI0 fun i j=>.bl (decide (i <= j))):=b1n fun _ _ _ _ _ _ _ q=>le_int q
theorem b8w:OpR X (compareOp .Gt) (rI0 fun i j=>.bl (decide (j < i))):=b1n fun _ _ _ _ _ _ _ q=>gt_int q
theorem b8m:OpR X (compareOp .GtE) (rI0 fun i j=>.bl (decide (j <= i))):=b1n fun _ _ _ _ _ _ _ q=>ge_int q
theorem b4L:OpR X (compareOp .Is) (fun x y H Q=>y = .non/\Q (.bl (decide (x = .non))) H):=by
 intro pins s σ H x y v u Q I rx ry h;obtain ⟨rfl,q⟩:=h;cases ry;refine is_none_gen (b4p I q ?_)
 cases x <;> first
  |(cases rx;rfl)
  |(obtain ⟨t,rfl⟩:=rx;rfl)
theorem OpR.or{f:Value->Value->Sem Value}{r r':R2}(h:OpR X f r)(h':OpR X f r'):OpR X f (fun x y H Q=>r x y H Q\/r' x y H Q):=by
 intro pins s σ H x y v u Q I rx ry q
 rcases q with q | q
 ·exact h pins s σ H x y v u Q I rx ry q
 ·exact h' pins s σ H x y v u Q I rx ry q
theorem a8h(b:Expr){op:CmpOp}(h:op ≠ .In:=by decide)(h2:op ≠ .NotIn:=by decide):behindInMarks op b=false:=by
 have e1:(op == CmpOp.In)=false:=by cases op <;> first | rfl | exact absurd rfl h
 have e2:(op == CmpOp.NotIn)=false:=by cases op <;> first | rfl | exact absurd rfl h2
 cases b with
 |Set elts k p =>
  show (k == 0 && (op == .In || op == .NotIn) && elts.all (constantsAlone 8))=false;rw [e1,e2]
  cases k == 0 <;> rfl
 |_=>rfl
theorem b1H{op:CmpOp}{r:R2}(ho:OpR X (compareOp op) r)(ha:PE X a ta)(hb:PE X b tb)(hm:behindInMarks op b=false):PE X (.Compare a [op] [b] pos) (tOp r ta tb):=by
 intro pins s σ H Q I h;exact wpAny_Compare1 (b5L ha hb I h fun v u s2 x y H2 I2 rx ry q=>ho pins s2 σ H2 x y v u Q I2 rx ry q) hm
def b3p(t:TE):TT:=fun σ H Q=>t σ H fun x H'=>∃ k,x = .bl k/\Q k H'
theorem b0W{op:CmpOp}{r:R2}(ho:OpR X (compareOp op) r)(ha:PE X a ta)(hb:PE X b tb)(hm:behindInMarks op b=false):PT X (.Compare a [op] [b] pos) (b3p (tOp r ta tb)):=by
 intro pins s σ H Q I h
 refine wpAny_isTrue_Compare1 (thn (ha pins s σ H _ I h) fun v s1 ⟨x,H1,I1,r1,q1⟩=>thn (hb pins s1 σ H1 _ I1 q1) fun u s2 ⟨y,H2,I2,r2,q2⟩ =>
  thn (ho pins s2 σ H2 x y v u _ I2 r1 r2 q2) fun c s3 ⟨z,H3,I3,r3,k,e,q3⟩=>?_) hm
 subst e;cases r3;exact wpAny_truthy_bool ⟨H3,I3,q3⟩
def a3x(r r':R2)(ta tb tc:TE):TE:=fun σ H Q=>ta σ H fun x H1=>tb σ H1 fun y H2=>r x y H2 fun z H3=>∃ k,z = .bl k /\
 (if k=true then tc σ H3 fun w' H4=>r' y w' H4 Q else Q (.bl false) H3)
theorem a8y{op op':CmpOp}{r r':R2}(ho:OpR X (compareOp op) r)(ho':OpR X (compareOp op') r')(ha:PE X a ta)(hb:PE X b tb)(hc:PE X c tc)
  (hm:lastMarks [op,op'] [b,c]=false:=by with_unfolding_all rfl):PE X (.Compare a [op,op'] [b,c] pos) (a3x r r' ta tb tc):=by
 intro pins s σ H Q I h
 refine Compare_chain (thn (ha pins s σ H _ I h) fun v s1 ⟨x,H1,I1,r1,q1⟩=>chain_link (thn (hb pins s1 σ H1 _ I1 q1) fun u s2 ⟨y,H2,I2,r2,q2⟩ =>
  thn (ho pins s2 σ H2 x y v u _ I2 r1 r2 q2) fun d s3 ⟨z,H3,I3,r3,k,e,q3⟩=>?_)) hm
 subst e;cases r3;refine wpAny_truthy_bool ?_
 cases k with
 |false=>exact ite_ff ⟨.bl false,H3,I3,rfl,q3⟩
 |true=>exact ite_tt (chain_last (thn (hc pins s3 σ H3 _ I3 q3) fun w' s4 ⟨z',H4,I4,r4,q4⟩=>ho' pins s4 σ H4 y z' u w' Q I4 r2 r4 q4))
theorem a8Y{op op':CmpOp}{r r':R2}(ho:OpR X (compareOp op) r)(ho':OpR X (compareOp op') r')(ha:PE X a ta)(hb:PE X b tb)(hc:PE X c tc)
  (hm:lastMarks [op,op'] [b,c]=false:=by with_unfolding_all rfl):PT X (.Compare a [op,op'] [b,c] pos) (b3p (a3x r r' ta tb tc)):=by
 intro pins s σ H Q I h
 refine isTrue_chain (thn (ha pins s σ H _ I h) fun v s1 ⟨x,H1,I1,r1,q1⟩=>test_link (thn (hb pins s1 σ H1 _ I1 q1) fun u s2 ⟨y,H2,I2,r2,q2⟩ =>
  thn (ho pins s2 σ H2 x y v u _ I2 r1 r2 q2) fun d s3 ⟨z,H3,I3,r3,k,e,q3⟩=>?_)) hm
 subst e;cases r3;refine wpAny_truthy_bool ?_
 cases k with
 |false =>
  obtain ⟨k',e',q'⟩:=q3
  cases e'
  exact ite_ff ⟨H3,I3,q'⟩
 |true =>
  refine ite_tt (test_last (thn (hc pins s3 σ H3 _ I3 q3) fun w' s4 ⟨z',H4,I4,r4,q4⟩=>thn (ho' pins s4 σ H4 y z' u w' _ I4 r2 r4 q4) fun d' s5 zz0=>?_));obtain ⟨z2,H5,I5,r5,k2,e2,q5⟩:=zz0;subst e2;cases r5;exact wpAny_truthy_bool ⟨H5,I5,q5⟩
def b3A(K:PySem.W.Frag)(x:V)(H:Hp)(k:Bool):Prop :=
 match x with
 |.non=>k=false
 |.bl b=>k=b
 |.int i=>k=(i != 0)
 |.str y=>y.length <= sizeLine/\k=((y.length:Int) != 0)
 |.byt y=>y.size <= sizeLine/\k=((y.size:Int) != 0)
 |.ref p=>(∃ xs,SqL K H p xs/\k = !xs.isEmpty)\/(∃ xs,SqT K H p xs/\k = !xs.isEmpty)\/∃ kvs,H p=some (.dK kvs)/\k = !kvs.isEmpty
 |_=>False
theorem a3G{κ:Type}{kvs:List (κ×V)}{vs:List (κ×Value)}(r:KV kvs vs):(!vs.isEmpty) = !kvs.isEmpty:=by
 cases r <;> rfl
theorem a0a{xs:List V}{its:List Value}(r:Vals xs its):(!its.toArray.isEmpty) = !xs.isEmpty:=by
 cases r <;> simp
theorem W7:(sizeLine:Nat) < 2 ^ 63:=by rw [sizeLine_eq];decide
theorem b6g:b9T X (fun x H Q=>∃ k,b3A X.K x H k/\Q k H):=by
 intro pins s σ H x v Q I rx h;obtain ⟨k,e,q⟩:=h;have hl:=W7;have hs:sizeLine=16777216:=sizeLine_eq
 cases x with
 |non =>
  cases rx;have e':k=false:=e;subst e';exact truthy_none ⟨H,I,q⟩
 |bl b =>
  cases rx;have e':k=b:=e;subst e';exact wpAny_truthy_bool ⟨H,I,q⟩
 |int i =>
  obtain ⟨t,rfl⟩:=rx;have e':k=(i != 0):=e;subst e';exact PySem.P.truthy_int ⟨H,I,q⟩
 |str y =>
  obtain ⟨t,rfl⟩:=rx;obtain ⟨hy,e'⟩:y.length <= sizeLine/\k=((y.length:Int) != 0):=e;subst e';exact PySem.P.truthy_str (by omega) ⟨H,I.tok _,q⟩
 |byt y =>
  obtain ⟨t,rfl⟩:=rx;obtain ⟨hy,e'⟩:y.size <= sizeLine/\k=((y.size:Int) != 0):=e;subst e';exact PySem.W.truthy_bytes (by omega) ⟨H,I.tok _,q⟩
 |ref p =>
  cases rx;have e':(∃ xs,SqL X.K H p xs/\k = !xs.isEmpty)\/(∃ xs,SqT X.K H p xs/\k = !xs.isEmpty)\/∃ kvs,H p=some (.dK kvs)/\k = !kvs.isEmpty:=e
  rcases e' with ⟨xs,hx,e'⟩ | ⟨xs,hx,e'⟩ | ⟨kvs,hx,e'⟩
  ·subst e';obtain ⟨its,r,pl,hz⟩:=I.list hx;have hlen:=r.length;exact wpAny_truthy_list pl.isList (by simp only [List.size_toArray];omega) ⟨H,I.tok _,by rw [a0a r];exact q⟩
  ·subst e';obtain ⟨its,r,pl,hz⟩:=I.tuple hx;have hlen:=r.length;exact truthy_tuple pl (by simp only [List.size_toArray];omega) ⟨H,I.tok _,by rw [a0a r];exact q⟩
  ·subst e';obtain ⟨hz,hS,vs,r,m⟩:kvs.length <= sizeLine/\(p == sysModules)=false/\∃ vs,KV kvs vs/\s.heap.DictOf (J3 X.prog X.w) p vs:=I.hok p _ hx;have hlen:kvs.length=vs.length:=Paired.length r;exact wpAny_truthy_dict hS m (by omega) ⟨H,I.tok _,by rw [a3G r];exact q⟩
 |_=>exact (show False from e).elim
theorem a8C(ha:PE X a ta)(he:∀ whole,isTrue a X.env whole=(do let v <- whole;standAt a.pos;holding [v] (truthy v))) :
  PT X a (fun σ H Q=>ta σ H fun x H'=>∃ k,b3A X.K x H' k/\Q k H'):=by
 intro pins s σ H Q I h;exact isTrue_plain (thn (ha pins s σ H _ I h) fun v s1 ⟨x,H1,I1,r1,q1⟩=>b6g pins s1 σ H1 x v Q I1 r1 q1) (he _)
theorem op_add_str:OpR X (binaryOp .Add) (fun x y H Q=>∃ i j,x = .str i/\y = .str j/\i.length + j.length <= sizeLine/\Q (.str (i ++ j)) H):=by
 intro pins s σ H x y v u Q I rx ry h;obtain ⟨i,j,rfl,rfl,hz,q⟩:=h;obtain ⟨t,rfl⟩:=rx;obtain ⟨t',rfl⟩:=ry;exact add_str (fun t' tk=>⟨.str (i ++ j),H,I.tok _,⟨_,rfl⟩,q⟩) hz
theorem O8{x:V}{us:List Value}(r:Vals [x] us):∃ u,us=[u]/\RelV x u:=by
 cases r with
 |cons r1 r2=>cases r2;exact ⟨_,rfl,r1⟩
theorem a2s{x y:V}{us:List Value}(r:Vals [x,y] us):∃ u w',us=[u,w']/\RelV x u/\RelV y w':=by
 cases r with
 |cons r1 r2 =>
  cases r2 with
  |cons r3 r4=>cases r4;exact ⟨_,_,rfl,r1,r3⟩
theorem a7b:CallR X (.builtin "abs") (fun xs H Q=>∃ i,xs=[.int i]/\Q (.int (if i < 0 then -i else i)) H):=by
 intro pins s σ H xs us Q I r h;obtain ⟨i,rfl,q⟩:=h;obtain ⟨u,rfl,t,rfl⟩:=O8 r;exact call_abs_int fun u tk=>⟨.int (if i < 0 then -i else i),H,I.tok _,⟨_,rfl⟩,q⟩
theorem a5p(hc:X.calm=true):CallR X (.builtin "max") (fun xs H Q=>∃ i j,xs=[.int i,.int j]/\Q (.int (if j > i then j else i)) H):=by
 intro pins s σ H xs us Q I r h;obtain ⟨i,j,rfl,q⟩:=h;obtain ⟨u,w',rfl,⟨t,rfl⟩,⟨t',rfl⟩⟩:=a2s r;refine max_two_ints (I.ok.hd hc) fun h' tk k=>⟨_,H,I.kept k,?_,q⟩
 by_cases hj:j > i
 ·rw [if_pos hj,if_pos hj];exact ⟨_,rfl⟩
 ·rw [if_neg hj,if_neg hj];exact ⟨_,rfl⟩
theorem a5B(hc:X.calm=true):CallR X (.builtin "min") (fun xs H Q=>∃ i j,xs=[.int i,.int j]/\Q (.int (if j < i then j else i)) H):=by
 intro pins s σ H xs us Q I r h;obtain ⟨i,j,rfl,q⟩:=h;obtain ⟨u,w',rfl,⟨t,rfl⟩,⟨t',rfl⟩⟩:=a2s r;refine min_two_ints (I.ok.hd hc) fun h' tk k=>⟨_,H,I.kept k,?_,q⟩
 by_cases hj:j < i
 ·rw [if_pos hj,if_pos hj];exact ⟨_,rfl⟩
 ·rw [if_neg hj,if_neg hj];exact ⟨_,rfl⟩
theorem a5Y:CallR X (.type "int") (fun xs H Q=>(∃ i,xs=[.int i]/\Q (.int i) H)\/∃ k,xs=[.bl k]/\Q (.int (if k then 1 else 0)) H):=by
 intro pins s σ H xs us Q I r h
 rcases h with ⟨i,rfl,q⟩ | ⟨k,rfl,q⟩
 ·obtain ⟨u,rfl,t,rfl⟩:=O8 r;exact call_int_int ⟨.int i,H,I,⟨_,rfl⟩,q⟩
 ·obtain ⟨u,rfl,r1⟩:=O8 r;cases r1;exact call_int_bool ⟨.int (if k then 1 else 0),H,I.tok _,⟨_,rfl⟩,q⟩
def b9r(K:PySem.W.Frag)(x:V)(H:Hp)(n:Nat):Prop :=
 match x with
 |.str y=>y.length <= sizeLine/\n=y.length
 |.byt y=>y.size <= sizeLine/\n=y.size
 |.ref p=>(∃ xs,SqL K H p xs/\n=xs.length)\/∃ xs,SqT K H p xs/\n=xs.length
 |_=>False
theorem a6G:CallR X (.builtin "len") (fun xs H Q=>∃ x n,xs=[x]/\b9r X.K x H n/\Q (.int n) H):=by
 intro pins s σ H xs us Q I r h;obtain ⟨x,n,rfl,e,q⟩:=h;obtain ⟨u,rfl,rx⟩:=O8 r;have hl:=W7;have hs:sizeLine=16777216:=sizeLine_eq
 cases x with
 |str y =>
  obtain ⟨t,rfl⟩:=rx;obtain ⟨hy,e'⟩:y.length <= sizeLine/\n=y.length:=e;subst e';exact len_str (by omega) ⟨.int _,H,I.tok _,⟨_,rfl⟩,q⟩
 |byt y =>
  obtain ⟨t,rfl⟩:=rx;obtain ⟨hy,e'⟩:y.size <= sizeLine/\n=y.size:=e;subst e';exact PySem.W.len_bytes (by omega) ⟨.int _,H,I.tok _,⟨_,rfl⟩,q⟩
 |ref p =>
  cases rx;have e':(∃ xs,SqL X.K H p xs/\n=xs.length)\/∃ xs,SqT X.K H p xs/\n=xs.length:=e
  rcases e' with ⟨xs,hx,e'⟩ | ⟨xs,hx,e'⟩
  ·subst e';obtain ⟨its,r',pl,hz⟩:=I.list hx;have hlen:=r'.length;exact Calls.call_len_list pl.isList (by simp only [List.size_toArray];omega) ⟨.int xs.length,H,I.tok _,⟨_,by simp only [List.size_toArray];rw [hlen]⟩,q⟩
  ·subst e';obtain ⟨its,r',pl,hz⟩:=I.tuple hx;have hlen:=r'.length;exact len_tuple pl (by simp only [List.size_toArray];omega) ⟨.int xs.length,H,I.tok _,⟨_,by simp only [List.size_toArray];rw [hlen]⟩,q⟩
 |_=>exact (show False from e).elim
end
end L2
namespace L2
open PySem PySem.Spec PyProof.Rows
structure ObjM(h:Heap)(x dx C:Addr)(mA:Str->Option Value):Prop where
 obj:h.get? x=some (PySem.W.instObj C dx)
 ns:h.Ns1 dx mA
 ne:dx ≠ x
theorem a0R{h:Heap}{dx:Addr}{mA:Str->Option Value}(n:h.Ns1 dx mA):∃ od,h.get? dx=some od/\∀ name,PySem.W.lookIn name od=some (mA name):=by
 obtain ⟨o,es,ep,ho,hd,hk,_,hm⟩:=n;refine ⟨o,ho,fun name=>?_⟩;have e:=hm name;unfold nsFind findBy at e;rw [<- Array.find?_toList] at e;unfold PySem.W.lookIn;rw [hd];dsimp only;split
 ·rename_i y q;rw [q] at e;exact congrArg some e
 ·rename_i q;rw [q] at e
  have a:es.toList.any (·.refKey)=false:=by
   rw [List.any_eq_false];intro y hy;obtain ⟨z,t,hkey⟩:=hk y (Array.mem_toList_iff.mp hy)
   simp [DictEntry.refKey,hkey]
  have a':¬ es.toList.any (·.refKey)=true:=by rw [a];exact Bool.false_ne_true
  rw [if_neg a'];exact congrArg some e
theorem ObjM.look{h:Heap}{x dx C:Addr}{mA:Str->Option Value}(I:ObjM h x dx C mA):∃ od,PySem.W.InstAt h x (PySem.W.instObj C dx) C (some od)/\∀ name,PySem.W.lookIn name od=some (mA name) :=
 let ⟨od,ho,hl⟩:=a0R I.ns
 ⟨od,⟨I.obj,rfl,rfl,ho⟩,hl⟩
section
variable {prog:Program} {w:World} {A:Around} {E:Value->Shared->Prop} {s:Shared} {K:PySem.W.Frag} {x dx C f:Addr} {mA:Str->Option Value} {name:Str} {v:Value}
end
theorem RelO.some_of{v:V}{o:Option Value}(r:RelO (some v) o):∃ u,o=some u/\RelV v u:=by
 cases o with
 |none=>exact (show False from r).elim
 |some u=>exact ⟨u,rfl,r⟩
section
variable {P:Program} {w:World} {H H':Hp} {h h':Heap} {a C dx:Addr} {fs fs':List (Str×V)}
theorem b2e(hok:HOk P w H h)(e:H a=some (.ins C dx fs)):∃ mA,ObjM h a dx C mA/\(∀ f,RelO (fs.lookup f) (mA f))/\PySem.Within mA (fs.map (·.1))/\fs.length <= 1000/\H dx=some (.own a):=by
 obtain ⟨d,z,ne,ob,mA,n,r,q⟩:=(show ObjOk P w H h a (.ins C dx fs) from hok a _ e)
 exact ⟨mA,⟨ob,n,ne⟩,r,q,z,d⟩
end
structure Cls(K:PySem.W.Frag)(C:Addr):Prop where
 pg:PySem.W.plainGet K C Str.empty=true
 hd:PySem.W.hasDictIn K C=true
 po:PySem.W.plainOver K C=true
 sa:PySem.W.findIn K (.ref C) "__setattr__" = some (some (.builtin "object.__setattr__"))
theorem Cls.get{K:PySem.W.Frag}{C:Addr}(c:Cls K C)(f:Str):PySem.W.plainGet K C f=true:=c.pg
def a2f(K:PySem.W.Frag)(C:Addr)(f:Str):Prop:=PySem.W.findIn K (.ref C) f=some none
section
variable {X:Cx} {pins:List (Addr×Obj)} {σ:St} {H:Hp} {s:Shared} {a C dx:Addr} {fs:List (Str×V)} {f:Str} {v:V} {A:Around} {E:Value->Shared->Prop}
theorem a9Y{prog:Program}{w:World}{env:Env}{e:Expr}{f:Str}{pos:Pos}{s:Shared}{Q:Value->Shared->Prop}(hb:attributeBase e f env (eval e env)=eval e env)
  (h:wpAny (model prog w) A (eval e env) (fun o s₁=>wpAny (model prog w) A (getAttr o f true) Q E s₁) E s):wpAny (model prog w) A (eval (.Attribute e f pos) env) Q E s :=
 Attribute_any_ h (by rw [arm_eval_Attribute,hb])
end
section
variable {X:Cx} {o e value:Expr} {f:Str} {pos pos' tpos:Pos} {ta tv:TE}
end
section
variable {X:Cx} {pins:List (Addr×Obj)} {σ:St} {H:Hp} {s:Shared} {A:Around} {E:Value->Shared->Prop} {Q:Value->Shared->Prop} {c:Value} {b:Bool}
inductive V5(K:PySem.W.Frag)(H:Hp):V->Value->Prop where
 |non:V5 K H .non (.type "NoneType")
 |bl (x:Bool):V5 K H (.bl x) (.type "bool")
 |int (i:Int):V5 K H (.int i) (.type "int")
 |str (x:Str):V5 K H (.str x) (.type "str")
 |flt (x:UInt64):V5 K H (.flt x) (.type "float")
 |lst {a:Addr} {xs:List V} (e:H a=some (.lst xs)):V5 K H (.ref a) (.type "list")
 |frz {a:Addr} {o:Obj} {xs:List V} (e:H a=some (.frz o (.lst xs))):V5 K H (.ref a) (.type "list")
 |tup {a:Addr} {xs:List V} (e:H a=some (.tup xs)):V5 K H (.ref a) (.type "tuple")
 |dK {a:Addr} {kvs:List (Key×V)} (e:H a=some (.dK kvs)):V5 K H (.ref a) (.type "dict")
 |dT {a:Addr} {kvs:List (List Key×V)} (e:H a=some (.dT kvs)):V5 K H (.ref a) (.type "dict")
 |ins {a C dx:Addr} {fs:List (Str×V)} (e:H a=some (.ins C dx fs)) (cl:Cls K C) (ha:PySem.W.findIn K (.ref C) "__class__" = some (some (.builtin "object.__class__")))
   (hn:PySem.W.specialIn K (.builtin "object.__class__") "__get__" = some (some (.builtin "getset_descriptor.__get__"))) (htk:PySem.W.takesIn K (.builtin "object.__class__")=some true)
   (hm:PySem.W.mroIn K C (.type "object")=some true):V5 K H (.ref a) (.ref C)
theorem a5X{x:V}{u t:Value}(I:Inv X pins σ H s)(rx:RelV x u)(ty:V5 X.K H x t)(e:PySem.W.kitOne X.K t c=some b)(h:∀ tk,Q (.bool b) { s with toks:=tk }) :
  wpAny (model X.prog X.w) A (call (.builtin "isinstance") [u,c]) Q E s:=by
 cases ty with
 |non=>cases (show u=Value.none from rx);exact PySem.W.kia_one PySem.W.kitx_none I.kIn True.intro e (fun z=>nomatch z) h
 |bl y=>cases (show u=Value.bool y from rx);exact PySem.W.kia_one PySem.W.kitx_bool I.kIn True.intro e (fun z=>nomatch z) h
 |int i=>obtain ⟨t,q⟩:=(show ∃ t,u=Value.int i t from rx);cases q;exact PySem.W.kia_one PySem.W.kitx_int I.kIn True.intro e (fun z=>nomatch z) h
 |str y=>obtain ⟨t,q⟩:=(show ∃ t,u=Value.str y t from rx);cases q;exact PySem.W.kia_one PySem.W.kitx_str I.kIn True.intro e (fun z=>nomatch z) h
 |flt y=>obtain ⟨t,q⟩:=(show ∃ t,u=Value.float y t from rx);cases q;exact PySem.W.kia_one PySem.W.kitx_float I.kIn True.intro e (fun z=>nomatch z) h
 |@lst a xs ea =>
  cases (show u=Value.ref a from rx)
  obtain ⟨_,_,n,_,h1⟩:=(show ObjOk X.prog X.w H s.heap a (.lst xs) from I.hok a _ ea)
  exact PySem.W.kia_one PySem.W.kitx_list I.kIn ⟨_,h1,rfl⟩ e (fun z=>nomatch z) h
 |@frz a ob xs ea =>
  cases (show u=Value.ref a from rx)
  obtain ⟨_,_,_,n,_,h1⟩:=(show ObjOk X.prog X.w H s.heap a (.frz ob (.lst xs)) from I.hok a _ ea)
  exact PySem.W.kia_one PySem.W.kitx_list I.kIn ⟨_,h1,rfl⟩ e (fun z=>nomatch z) h
 |@tup a xs ea =>
  cases (show u=Value.ref a from rx)
  obtain ⟨_,_,_,p⟩:=(show ObjOk X.prog X.w H s.heap a (.tup xs) from I.hok a _ ea)
  obtain ⟨o,h1,h2,_⟩:=p;exact PySem.W.kia_one PySem.W.kitx_tuple I.kIn ⟨o,h1,h2⟩ e (fun z=>nomatch z) h
 |@dK a kvs ea =>
  cases (show u=Value.ref a from rx)
  obtain ⟨_,_,vs,_,p⟩:=(show ObjOk X.prog X.w H s.heap a (.dK kvs) from I.hok a _ ea)
  obtain ⟨o,es,ep,h1,h2,_⟩:=p;exact PySem.W.kia_one PySem.W.kitx_dict I.kIn ⟨o,h1,h2.1⟩ e (fun z=>nomatch z) h
 |@dT a kvs ea =>
  cases (show u=Value.ref a from rx)
  obtain ⟨_,_,xs,_,o,es,ep,h1,h2,_⟩:=(show ObjOk X.prog X.w H s.heap a (.dT kvs) from I.hok a _ ea)
  exact PySem.W.kia_one PySem.W.kitx_dict I.kIn ⟨o,h1,h2.1⟩ e (fun z=>nomatch z) h
 |@ins a C dx fs ea cl ha hn htk hm =>
  cases (show u=Value.ref a from rx)
  obtain ⟨mA,O,_⟩:=b2e I.hok ea;obtain ⟨od,J,_⟩:=O.look;exact PySem.W.kia_one (PySem.W.kitx_own (cl.get _) cl.hd ha hn htk hm) I.kIn J e (fun z=>nomatch z) h
end
end L2
namespace L2
open PySem PySem.Spec PyProof.Rows
structure Room(k:Nat)(A:Around):Prop where
 hd:A.handled=none
 dp:A.depth + 3 * k + 5 < recursionLimit
 un:A.units + 16 * k + 200 < cLine
theorem Room.mono{j k:Nat}{A:Around}(r:Room k A)(h:j <= k):Room j A:=⟨r.hd,by have:=r.dp;omega,by have:=r.un;omega⟩
theorem Room.deeper{k:Nat}{A:Around}(r:Room (k + 1) A)(env:Env):Room k (A.deeper env) :=
 ⟨r.hd,by have:=r.dp;show A.depth + 1 + 3 * k + 5 < _;omega,by have:=r.un;show A.units + 3 + 16 * k + 200 < _;omega⟩
theorem a3k{A:Around}{C:Addr}{us:List Value}{kw:List (Str×Value)}:(A.under (.builtin "type.__call__" ⟨.ref C :: us,kw⟩)).depth=A.depth + 1:=by
 first | rfl | simp [Around.under,Code.weight,Code.isCreation,Code.isGuard,Code.isCaller,Code.frames,Code.isFrame,guardIds]
theorem a3L{A:Around}{C:Addr}{us:List Value}{kw:List (Str×Value)}:(A.under (.builtin "type.__call__" ⟨.ref C :: us,kw⟩)).units=A.units + 1:=by
 first | rfl | simp [Around.under,Code.cUnits,Code.frames,Code.isFrame]
theorem Room.make{k:Nat}{A:Around}(r:Room (k + 1) A)(C:Addr)(us:List Value)(kw:List (Str×Value)):Room k (A.under (.builtin "type.__call__" ⟨.ref C :: us,kw⟩)) :=
 ⟨r.hd,by have:=r.dp;rw [a3k];omega,by have:=r.un;rw [a3L];omega⟩
theorem Room.depth{k:Nat}{A:Around}(r:Room k A):A.depth < recursionLimit:=by have:=r.dp;omega
theorem Room.units{k:Nat}{A:Around}(r:Room k A):A.units + 64 < cLine:=by have:=r.un;omega
def b9P:TA:=fun _ H Q=>Q [] H
def b7q(ta:TE)(tr:TA):TA:=fun σ H Q=>ta σ H fun x H1=>tr σ H1 fun xs H2=>Q (x :: xs) H2
section
variable {X:Cx} {e:Expr} {es:List Expr} {te:TE} {t:TA} {pos:Pos}
theorem N7:PA X [] b9P:=fun _ _ _ _ H Q I h=>Calls.spliced_nil ⟨[],H,I,.nil,h⟩
theorem A4(ha:PE X e te)(hr:PA X es t)(hs:starEach (e :: es) X.env=(false,eval e X.env) :: starEach es X.env:=by rfl):PA X (e :: es) (b7q te t):=by
 intro pos pins s σ H Q I h;rw [hs];show wpAny _ _ (spliced ((false,eval e X.env) :: backTo pos (starEach es X.env))) _ _ s;refine Calls.spliced_cons (thn (ha pins s σ H _ I h) fun u s1 zz0=>?_);obtain ⟨x,H1,I1,r1,q1⟩:=zz0;exact thn (hr pos pins s1 σ H1 _ I1 q1) fun us s2 ⟨xs,H2,I2,r2,q2⟩=>⟨x :: xs,H2,I2,.cons r1 r2,q2⟩
def b9B(t:TA):TE:=fun σ H Q=>t σ H fun xs H1=>xs.length <= sizeLine/\∀ p,H1 p=none->Q (.ref p) (upd H1 p (.tup xs))
def b9Z(t:TA):TE:=fun σ H Q=>t σ H fun xs H1=>xs.length <= sizeLine/\∀ p,H1 p=none->Q (.ref p) (upd H1 p (.lst xs))
theorem a6I{x1}(h:PA X es t):PE X (.Tuple es x1 pos) (b9B t):=by
 intro pins s σ H Q I hq;refine wpAny_Tuple_spliced (thn (h pos pins s σ H _ I hq) fun us s1 ⟨xs,H1,I1,r,z,q⟩=>⟨by rw [<- r.length];exact z,?_⟩);have hf:H1 s1.heap.objs.size=none:=I1.hok.fresh (Nat.le_refl _);refine ⟨.ref s1.heap.objs.size,upd H1 s1.heap.objs.size (.tup xs),I1.laid (t':=s1.toks) (fun b u e=>Heap.get?_push_of_some _ e) (Nat.le_refl _) ?_,rfl,q _ hf⟩;exact ⟨z,us,r,⟨_,Heap.get?_push_size _ rfl,rfl,_,rfl⟩⟩
theorem b4N(h:PA X es t):PE X (.List es pos) (b9Z t):=by
 intro pins s σ H Q I hq;refine wpAny_List_spliced (thn (h pos pins s σ H _ I hq) fun us s1 ⟨xs,H1,I1,r,z,q⟩=>⟨by rw [<- r.length];exact z,?_⟩);have hf:H1 s1.heap.objs.size=none:=I1.hok.fresh (Nat.le_refl _);refine ⟨.ref s1.heap.objs.size,upd H1 s1.heap.objs.size (.lst xs),I1.laid (t':=s1.toks) (fun b u e=>Heap.get?_push_of_some _ e) (Nat.le_refl _) ?_,rfl,q _ hf⟩;exact ⟨z,us,0,r,Heap.get?_push_size _ rfl⟩
end
abbrev Sp:=List V->Hp->VK->XK->Prop
abbrev CXT:=List Env->Hp->Shared->XK->Value->Shared->Prop
structure Env0(P:Program)(w:World)(K:PySem.W.Frag)(mg:Str->Option Value)(base:Heap)(A:Around)(outer:List Env)(s:Shared)(H:Hp):Prop where
 frames:A.frames=some outer
 mod:Mod K mg base
 bs:∀ b o,base.get? b=some o->s.heap.get? b=some o/\H b=none
 bsz:base.objs.size <= s.heap.objs.size
 funs:s.heap.FunFrames base outer
 frf:∀ b ∈ frs outer,H b=none
 hok:HOk P w H s.heap
 bare:AllBare s.gens
def CE(outer:List Env)(P:Program)(w:World)(H:Hp)(s:Shared)(Q:VK)(u:Value)(s':Shared):Prop :=
 ∃ v H',s'.os=s.os/\AllBare s'.gens/\Un (frs outer) [] H H' s.heap s'.heap/\HOk P w H' s'.heap/\RelV v u/\Q v H'
def CR(CX:CXT)(outer:List Env)(P:Program)(w:World)(H:Hp)(s:Shared)(Q:VK)(E:XK)(r:Result)(s':Shared):Prop :=
 match r with
 |.ok (.ret u)=>CE outer P w H s Q u s'
 |.ok _=>False
 |.error e=>CX outer H s E e s'
structure u7(P:Program)(w:World)(K:PySem.W.Frag)(mg:Str->Option Value)(base:Heap)(CX:CXT)(k:Nat)(f:Addr)(fd:FuncData)(ps:List Str)(sp:Sp):Prop where
 len:∀ vs H Q E,sp vs H Q E->vs.length=ps.length
 run:∀ (A:Around) (outer:List Env) (s:Shared) (H:Hp) (args:Args) (us:List Value) (vs:List V) (Q:VK) (E:XK),Room k A->Env0 P w K mg base A outer s H->BindsTo s fd args (ps.zip us)->Vals vs us->sp vs H Q E ->
  codeAny (model P w) A (.call (.ref f) args) (CR CX outer P w H s Q E) s
theorem Env0.make{P:Program}{w:World}{K:PySem.W.Frag}{mg:Str->Option Value}{base:Heap}{A:Around}{outer:List Env}{s:Shared}{H:Hp}(e:Env0 P w K mg base A outer s H)(C:Addr)(us:List Value)(kw:List (Str×Value)) :
  Env0 P w K mg base (A.under (.builtin "type.__call__" ⟨.ref C :: us,kw⟩)) outer s H:=⟨by first | exact e.frames | (simpa [Around.under,Code.envs,Code.isFrame,pushEnvs] using e.frames),e.mod,e.bs,e.bsz,e.funs,e.frf,e.hok,e.bare⟩
section
variable {X:Cx} {pins:List (Addr×Obj)} {σ:St} {H:Hp} {s s':Shared}
theorem Inv.env0(I:Inv X pins σ H s):Env0 X.prog X.w X.K X.mg X.base X.A X.stack s H :=
 ⟨I.ok.frames,I.ok.mod,I.bs,Nat.le_trans I.ok.bsz I.sz,I.stack,I.stkFree,I.hok,I.bare⟩
theorem Inv.after{Q:VK}{u:Value}(I:Inv X pins σ H s)(h:CE X.stack X.prog X.w H s Q u s'):EP X pins σ Q u s':=by
 obtain ⟨v,H',os,bare,un,hok,r,q⟩:=h;obtain ⟨hh,g,d,t,os'⟩:=s'
 obtain rfl:os'=s.os:=os
 exact ⟨v,H',I.call (h':=hh) (g':=g) (d':=d) (t':=t) (ch:=[]) un hok bare (fun b z=>absurd z (by simp)),r,q⟩
end
def b2Z(sp:Sp)(dvs:List V)(E:XK)(t:TA):TE:=fun σ H Q=>t σ H fun vs H1=>sp (vs ++ dvs) H1 Q E
def Binds(K:PySem.W.Frag)(fd:FuncData)(ps:List Str)(ds:List Value):Prop :=
 ∀ (s:Shared) (us:List Value),K.In s.heap->(us ++ ds).length=ps.length->BindsTo s fd ⟨us,[]⟩ (ps.zip (us ++ ds))
theorem Binds.all{K:PySem.W.Frag}{fd:FuncData}{ps:List Str}(h:∀ us:List Value,us.length=ps.length->bindArgs fd ⟨us,[]⟩=pure (ps.zip us)):Binds K fd ps []:=fun s us _ hl=>by
 rw [List.append_nil] at hl ⊢;exact .of_eq (h us hl)
def a1T(CX:CXT)(X:Cx)(E:XK):Prop:=∀ (pins:List (Addr×Obj)) (σ:St) (H:Hp) (s:Shared) (e:Value) (s':Shared),Inv X pins σ H s->CX X.stack H s E e s'->X.xe e s'
section
variable {X:Cx} {CX:CXT} {k:Nat} {f C:Addr} {fd:FuncData} {ps:List Str} {sp:Sp} {dvs:List V} {ds:List Value} {E:XK} {x m:Str} {p pos apos:Pos} {e o:Expr} {es:List Expr} {ta:TE} {t:TA}
theorem b4c{pins:List (Addr×Obj)}{σ:St}{H:Hp}{s:Shared}{Q:VK}{us:List Value}{vs:List V}(F:u7 X.prog X.w X.K X.mg X.base CX k f fd ps sp)(hr:Room k X.A)(hb:Binds X.K fd ps ds)(hd:Vals dvs ds)(hx:a1T CX X E)
  (I:Inv X pins σ H s) (r:Vals vs us) (h:sp (vs ++ dvs) H Q E):wpAny (model X.prog X.w) X.A (call (.ref f) us) (EP X pins σ Q) X.xe s:=by
 have r2:Vals (vs ++ dvs) (us ++ ds):=r.append hd;have hl:(us ++ ds).length=ps.length:=by rw [<- r2.length];exact F.len _ _ _ _ h
 refine wpAny_call (codeAny_mono (F.run X.A X.stack s H ⟨us,[]⟩ (us ++ ds) (vs ++ dvs) Q E hr I.env0 (hb s us I.kIn hl) r2 h) fun r s' hq=>?_)
 cases r with
 |error e=>exact hx pins σ H s e s' I hq
 |ok fl =>
  cases fl with
  |ret u=>exact I.after hq
  |next=>exact False.elim hq
  |brk=>exact False.elim hq
  |cont=>exact False.elim hq
theorem a2b(F:u7 X.prog X.w X.K X.mg X.base CX k f fd ps sp)(hr:Room k X.A)(hg:Gl X x)(hm:X.mg x=some (.ref f))(hk:PySem.W.keepIn X.K (.ref f)=true)(hb:Binds X.K fd ps ds)(hd:Vals dvs ds)(hx:a1T CX X E)
  (ha:PA X (e :: es) t) (hdb:(x == ("__debug__":Str))=false:=by decide) (he:starEach (e :: es) X.env=(false,eval e X.env) :: starEach es X.env:=by rfl) (hpl:(backTo pos (starEach es X.env)).any (·.1)=false:=by rfl) :
  PE X (.Call (.Name x p) (e :: es) [] pos) (b2Z sp dvs E t):=by
 intro pins s σ H Q I h;refine wpAny_Call_Name_kw (L4 I hg hm ?_ hdb);refine PySem.W.callWith_K (h₀:=X.base) I.ok.mod.kin hk (thn (ha pos pins s σ H _ I h) fun us s1 ⟨vs,H1,I1,r,q⟩=>⟨I1.kIn,?_⟩) he hpl;exact b4c F hr hb hd hx I1 r q
end
section
variable {X:Cx} {CX:CXT} {k:Nat} {f C:Addr} {fd:FuncData} {ps ks:List Str} {sp:Sp} {E:XK} {x m:Str} {p pos apos kpos:Pos} {e o:Expr} {es:List Expr} {kws:List Keyword} {te ta:TE} {t tk:TA} {nm:Option Str}
variable {g:List Value->List Value->List Value} {gV:List V->List V->List V}
end
structure j6(N P:List Str)(sc:Scope):Prop where
 kind:sc.kind = .function
 co:sc.isCoroutine=false
 gen:sc.isGenerator=false
 nd:N.Nodup
 pre:N.take P.length=P
 par:∀ x ∈ P,sc.names.lookup x=some .local\/sc.names.lookup x=some .cell
 nofree:∀ y ∈ sc.names,y.2 ≠ .free
theorem a0W{kindOf:Str->Option NameKind}{x:Str}:∀ {binds:List (Str×Value)} {m:Str->Option Value},(∀ v,(x,v) ∉ binds)->bindL kindOf binds m x=m x
 |[],_,_=>rfl
 |(n,v) :: r,m,h=>by
  unfold bindL;rw [a0W fun w hw=>h w (List.mem_cons_of_mem _ hw)];split
  ·have:x ≠ n:=by rintro rfl;exact h v List.mem_cons_self
   simp [this]
  ·rfl
theorem a0X{kindOf:Str->Option NameKind}{x:Str}:∀ {binds:List (Str×Value)} {m:Str->Option Value},(∀ v,(x,v) ∉ binds)->bindC kindOf binds m x=m x
 |[],_,_=>rfl
 |(n,v) :: r,m,h=>by
  unfold bindC;rw [a0X fun w hw=>h w (List.mem_cons_of_mem _ hw)];split
  ·rfl
  ·have:x ≠ n:=by rintro rfl;exact h v List.mem_cons_self
   simp [this]
theorem a1m{kindOf:Str->Option NameKind}{x:Str}{v:Value}:∀ {P:List Str} {vs:List Value} {i:Nat} {m:Str->Option Value},P.Nodup->P[i]?=some x->vs[i]?=some v->kindOf x=some .local ->
  bindL kindOf (P.zip vs) m x=some v
 |[],_,_,_,_,h,_,_=>by simp at h
 |_ :: _,[],_,_,_,_,h,_=>by simp at h
 |p :: P,w :: vs,0,m,nd,h1,h2,hk=>by
  simp at h1 h2;subst h1;subst h2;show bindL kindOf ((p,w) :: P.zip vs) m p=_;unfold bindL;rw [a0W fun v hv=>(List.nodup_cons.mp nd).1 (List.of_mem_zip hv).1,if_pos hk]
  simp
 |p :: P,w :: vs,i + 1,m,nd,h1,h2,hk=>by
  show bindL kindOf ((p,w) :: P.zip vs) m x=_;unfold bindL;exact a1m (i:=i) (List.nodup_cons.mp nd).2 (by simpa using h1) (by simpa using h2) hk
theorem a1e{kindOf:Str->Option NameKind}{x:Str}{v:Value}:∀ {P:List Str} {vs:List Value} {i:Nat} {m:Str->Option Value},P.Nodup->P[i]?=some x->vs[i]?=some v->kindOf x ≠ some .local ->
  bindC kindOf (P.zip vs) m x=some v
 |[],_,_,_,_,h,_,_=>by simp at h
 |_ :: _,[],_,_,_,_,h,_=>by simp at h
 |p :: P,w :: vs,0,m,nd,h1,h2,hk=>by
  simp at h1 h2;subst h1;subst h2;show bindC kindOf ((p,w) :: P.zip vs) m p=_;unfold bindC;rw [a0X fun v hv=>(List.nodup_cons.mp nd).1 (List.of_mem_zip hv).1,if_neg hk]
  simp
 |p :: P,w :: vs,i + 1,m,nd,h1,h2,hk=>by
  show bindC kindOf ((p,w) :: P.zip vs) m x=_;unfold bindC;exact a1e (i:=i) (List.nodup_cons.mp nd).2 (by simpa using h1) (by simpa using h2) hk
def start(N:List Str)(vs:List V):St:=vs.map some ++ List.replicate (N.length - vs.length) none
def Z2(CX:CXT)(P:Program)(w:World)(K:PySem.W.Frag)(mg:Str->Option Value)(base:Heap)(N:List Str)(qual:Str)(scope:Scope)(f:Addr)(cd:Value)(A:Around)(outer:List Env)(s:Shared)(H:Hp)(E:XK):Cx where
 prog:=P
 w:=w
 K:=K
 mg:=mg
 base:=base
 A:=A.deeper (envOfC qual scope s.heap.objs.size f cd)
 N:=N
 s₀:=s
 H₀:=H
 env:=envOfC qual scope s.heap.objs.size f cd
 outer:=outer
 stack:=envOfC qual scope s.heap.objs.size f cd :: outer
 ex:=[]
 calm:=true
 fn:=fun _=>true
 pn:=[]
 xe:=fun e s'=>wpAny (model P w) (A.deeper (envOfC qual scope s.heap.objs.size f cd)) (leaving (envOfC qual scope s.heap.objs.size f cd) e) (fun _ s''=>CX outer H s E e s'') (fun e' s''=>CX outer H s E e' s'') s'
theorem a2N{sc:Scope}{n:Nat}{x:Str}(h:sc.names.lookup x=some .cell):∃ c,(cellsFrom n sc.names []).lookup x=some c:=by
 have q:=PySem.W.cellsFrom_some sc.names n [] (.inl h);exact Option.isSome_iff_exists.mp q
theorem a5W{CX:CXT}{P:Program}{w:World}{K:PySem.W.Frag}{mg:Str->Option Value}{base:Heap}{N ps:List Str}{qual:Str}{scope:Scope}{f:Addr}{cd:Value}{A:Around}{outer:List Env}{s s1:Shared}{H:Hp}{E:XK}{us:List Value}{vs:List V}
  (S:j6 N ps scope) (hd:A.handled=none) (e0:Env0 P w K mg base A outer s H) (hl:vs.length=ps.length) (r:Vals vs us)
  (x:InCallC s s.heap.objs.size (bindL (envOfC qual scope s.heap.objs.size f cd).kindOf (ps.zip us) fun _=>none) (cellsFrom (s.heap.objs.size + 1) scope.names []) (bindC (envOfC qual scope s.heap.objs.size f cd).kindOf (ps.zip us) fun _=>none) s1) :
  Inv (Z2 CX P w K mg base N qual scope f cd A outer s H E) [] (start N vs) H s1:=by
 have hpl:ps.length <= N.length:=by have:=congrArg List.length S.pre;rw [List.length_take] at this;omega
 obtain ⟨h1,tk,rfl,hk⟩:=x.done;have noA:∀ b:Addr,b ∉ (Z2 CX P w K mg base N qual scope f cd A outer s H E).ex:=fun b z=>absurd (show b ∈ ([]:List Addr) from z) (by simp)
 refine ⟨⟨e0.mod,S.kind,rfl,rfl,Nat.le_refl _,fun y z c h1 h2=>?_,fun y hy=>?_,fun y c _ h=>?_,fun _=>hd,Around.frames_deeper e0.frames,.inr ⟨rfl,rfl⟩,fun b z=>absurd z (noA b),e0.bs,e0.bsz,fun b _ _=>noA b,fun b z=>absurd z (noA b),e0.funs,e0.frf⟩,
  rfl,e0.bare,Un.kept hk,⟨_,x.toInCall.ns,fun i y v h1 h2 h3=>?_⟩,fun y c h=>⟨_,x.cell y c h⟩,e0.hok.fresh (Nat.le_refl _),fun y c h=>?_,fun p hp=>absurd (show p ∈ ([]:List (Addr×Obj)) from hp) (by simp),e0.hok.kept hk,?_⟩
 ·exact name_of_addr x.apart (PySem.mem_of_lookup h1) (PySem.mem_of_lookup h2)
 ·have hy:scope.names.lookup y=some .cell\/scope.names.lookup y=some .free:=hy
  rcases hy with hy | hy
  ·exact a2N hy
  ·exact absurd rfl (S.nofree _ (PySem.mem_of_lookup hy))
 ·exact Nat.le_of_lt (x.above y c (PySem.mem_of_lookup h))
 ·have hi:i < vs.length:=by
   unfold start at h2
   by_cases hi:i < vs.length
   ·exact hi
   ·rw [List.getElem?_append_right (by simpa using hi)] at h2;rw [List.getElem?_replicate] at h2
    split at h2 <;> cases h2
  have ha:vs[i]?=some v:=by
   unfold start at h2;rw [List.getElem?_append_left (by simpa using hi),List.getElem?_map] at h2
   cases e:vs[i]? with
   |none=>rw [e] at h2;cases h2
   |some a=>rw [e] at h2;cases h2;rfl
  obtain ⟨u,hu,rv⟩:=r.get ha
  have hp:ps[i]?=some y:=by
   rw [<- S.pre,List.getElem?_take_of_lt (by omega)];exact h1
  have ndP:ps.Nodup:=by rw [<- S.pre];exact S.nd.sublist (List.take_sublist _ _)
  refine ⟨u,rv,?_⟩
  rcases S.par y (List.mem_of_getElem? hp) with k | k
  ·exact .inl ⟨k,a1m ndP hp hu k⟩
  ·obtain ⟨c,e⟩:=a2N (n:=s.heap.objs.size + 1) k;refine .inr ⟨.inl k,c,e,?_⟩;have q:=x.cell y c e;rw [a1e ndP hp hu (by show scope.names.lookup y ≠ _;rw [k];decide)] at q;exact q
 ·exact e0.hok.fresh (Nat.le_of_lt (x.above y c (PySem.mem_of_lookup h)))
 ·unfold start;show _=N.length;rw [List.length_append,List.length_map,List.length_replicate];omega
theorem b2X{CX:CXT}{P:Program}{w:World}{K:PySem.W.Frag}{mg:Str->Option Value}{base:Heap}{k:Nat}{f:Addr}{name qual:Str}{params:Arguments}{body:List Stmt}{scope:Scope}{dV kV doc pm cdv ct oc:Value}{an od:Option Addr}
  {osl:Array (Option Value)} {N ps:List Str} {sp:Sp} (lk:K.lookup f=some ⟨oc,od,.func (PySem.W.fnOf name qual params body scope dV kV doc pm an cdv ct),osl⟩) (hcd:PySem.W.codeIn K cdv qual=true) (S:j6 N ps scope)
  (len:∀ vs H Q E,sp vs H Q E->vs.length=ps.length)
  (hbody:∀ (A:Around) (outer:List Env) (s:Shared) (H:Hp) (vs:List V) (Q:VK) (E:XK),Room k (A.deeper (envOfC qual scope s.heap.objs.size f cdv))->sp vs H Q E ->
   ∃ t,PSs (Z2 CX P w K mg base N qual scope f cdv A outer s H E) body t/\t { nx:=fun _ H'=>Q .non H',rt:=Q } (start N vs) H) :
  u7 P w K mg base CX (k + 1) f (PySem.W.fnOf name qual params body scope dV kV doc pm an cdv ct) ps sp:=by
 refine ⟨len,fun A outer s H args us vs Q E hr e0 hb r hsp=>?_⟩;have hl:=len _ _ _ _ hsp;have KX:K.In s.heap:=e0.mod.kin.keeps fun b o e=>(e0.bs b o e).1;have lim:s.heap.NoLimit:=e0.mod.nolimit.keeps fun b o e=>(e0.bs b o e).1
 have hkind:∀ y ∈ ps.zip us,scope.names.lookup y.1=some .local\/(scope.names.lookup y.1=some .cell/\((cellsFrom (s.heap.objs.size + 1) scope.names []).lookup y.1).isSome=true):=fun zz0 hy=>by
  obtain ⟨n,v⟩:=zz0
  rcases S.par n (List.of_mem_zip hy).1 with q | q
  ·exact .inl q
  ·exact .inr ⟨q,PySem.W.cellsFrom_some _ _ _ (.inl q)⟩
 refine codeAny_call_function hr.depth (KX _ _ lk) rfl S.co S.gen rfl (PySem.W.codeRec_of KX hcd) (hb _ _ _ _ ?_);refine wpAny_newFunctionEnv_cells S.kind hkind fun env he s1 x=>?_;subst he;refine ⟨lim.keeps x.toInCall.keep,codeAny_func ?_⟩;obtain ⟨t,ht,hq⟩:=hbody A outer s H vs Q E (hr.deeper _) hsp;have I:Inv (Z2 CX P w K mg base N qual scope f cdv A outer s H E) [] (start N vs) H s1:=a5W S hr.hd e0 hl r x;refine wpAny_mono (ht [] s1 (start N vs) H _ I hq) (fun fl s' hs=>?_) fun e s' hs=>hs
 have fin:∀ {σ':St} {H':Hp} {v:V} {u:Value},Inv (Z2 CX P w K mg base N qual scope f cdv A outer s H E) [] σ' H' s'->RelV v u->Q v H'->CE outer P w H s Q u s' :=
  fun {σ' H' v u} J rv q=>⟨v,H',J.os,J.bare,J.base,J.hok,rv,q⟩
 cases fl with
 |ret u =>
  obtain ⟨v,σ',H',J,rv,q⟩:=hs;exact fin J rv q
 |next =>
  obtain ⟨σ',H',J,q⟩:=hs;exact fin (v:=V.non) (u:=Value.none) J rfl q
 |brk =>
  obtain ⟨_,_,_,q⟩:=hs;exact False.elim q
 |cont =>
  obtain ⟨_,_,_,q⟩:=hs;exact False.elim q
end L2
namespace L2
open PySem PySem.Spec PyProof.Rows
section
variable {X:Cx} {x:Str} {p pos:Pos} {e:Expr} {es:List Expr} {t:TA} {id T:String} {r:List V->Hp->VK->Prop}
def tCB(r:List V->Hp->VK->Prop)(t:TA):TE:=fun σ H Q=>t σ H fun vs H1=>r vs H1 Q
theorem V2(hc:CallR X (.builtin id) r)(hg:Gl X x)(hm:X.mg x=none)(hv:bootBuiltins x=some (.builtin id))(ha:PA X (e :: es) t)(hn:x ≠ "__name__":=by decide)(hdb:(x == ("__debug__":Str))=false:=by decide)
  (he:starEach (e :: es) X.env=(false,eval e X.env) :: starEach es X.env:=by rfl) (hpl:(backTo pos (starEach es X.env)).any (·.1)=false:=by rfl):PE X (.Call (.Name x p) (e :: es) [] pos) (tCB r t):=by
 intro pins s σ H Q I h;refine wpAny_Call_Name_kw (M1 I hg hm hv ?_ hn hdb);exact PyProof.Rows.callWith_builtin1 (thn (ha pos pins s σ H _ I h) fun us s1 ⟨vs,H1,I1,r1,q1⟩=>hc pins s1 σ H1 vs us Q I1 r1 q1) he hpl
theorem Q0(hc:CallR X (.type T) r)(hg:Gl X x)(hm:X.mg x=none)(hv:bootBuiltins x=some (.type T))(ha:PA X (e :: es) t)(hn:x ≠ "__name__":=by decide)(hdb:(x == ("__debug__":Str))=false:=by decide)
  (he:starEach (e :: es) X.env=(false,eval e X.env) :: starEach es X.env:=by rfl) (hpl:(backTo pos (starEach es X.env)).any (·.1)=false:=by rfl):PE X (.Call (.Name x p) (e :: es) [] pos) (tCB r t):=by
 intro pins s σ H Q I h;refine wpAny_Call_Name_kw (M1 I hg hm hv ?_ hn hdb);exact PyProof.Rows.callWith_type1 (thn (ha pos pins s σ H _ I h) fun us s1 ⟨vs,H1,I1,r1,q1⟩=>hc pins s1 σ H1 vs us Q I1 r1 q1) he hpl
end
end L2
namespace L2
open PySem PySem.Spec PyProof.Rows
section
variable {κ:Type} [DecidableEq κ]
def a0B(kvs:List (κ×V))(k:κ):Option V:=(kvs.find? fun kv=>decide (kv.1=k)).map (·.2)
theorem a2G{p:κ×V}{r:List (κ×V)}{k:κ}(e:p.1=k):a0B (p :: r) k=some p.2:=by simp [a0B,List.find?_cons,e]
theorem a2v{p:κ×V}{r:List (κ×V)}{k:κ}(e:¬ p.1=k):a0B (p :: r) k=a0B r k:=by simp [a0B,List.find?_cons,e]
theorem KV.val{kvs:List (κ×V)}{vs:List (κ×Value)}(r:KV kvs vs)(k:κ):RelO (a0B kvs k) (valueAt vs k):=by
 unfold KV at r
 induction r with
 |nil=>exact True.intro
 |@cons p q ps qs h t ih =>
  obtain ⟨h1,h2⟩:=h
  by_cases e:p.1=k
  ·have e':q.1=k:=h1.symm.trans e;have b:valueAt (q :: qs) k=some q.2:=by simp [valueAt,List.find?_cons,e']
   rw [a2G e,b];exact h2
  ·have e':¬ q.1=k:=fun z=>e (h1.trans z);have b:valueAt (q :: qs) k=valueAt qs k:=by simp [valueAt,List.find?_cons,e']
   rw [a2v e,b];exact ih
end
theorem b7K{P:Program}{w:World}{k:Key}{u:Value}(r:RelV (kV k) u):(J3 P w).is k u=true:=by
 cases k with
 |inl i=>obtain ⟨t,e⟩:=(show ∃ t,u=Value.int i t from r);subst e;exact a2g P w i t
 |inr x=>obtain ⟨t,e⟩:=(show ∃ t,u=Value.str x t from r);subst e;exact a2C P w x t
abbrev KT(H:Hp):List (List Key×V)->List (List Key×Addr×Value)->Prop:=Paired fun p q=>p.1=q.1/\H q.2.1=some (.tup (p.1.map kV))/\RelV p.2 q.2.2
theorem KT.val{H:Hp}{kvs:List (List Key×V)}{xs:List (List Key×Addr×Value)}(r:KT H kvs xs)(k:List Key):RelO (a0B kvs k) ((atKey xs k).map (·.2)):=by
 induction r with
 |nil=>exact True.intro
 |@cons p q ps qs h t ih =>
  obtain ⟨h1,_,h2⟩:=h
  by_cases e:p.1=k
  ·have e':q.1=k:=h1.symm.trans e;have b:atKey (q :: qs) k=some q.2:=by simp [atKey,List.find?_cons,e']
   rw [a2G e,b];exact h2
  ·have e':¬ q.1=k:=fun z=>e (h1.trans z);have b:atKey (q :: qs) k=atKey qs k:=by simp [atKey,List.find?_cons,e']
   rw [a2v e,b];exact ih
theorem KT.keeps{H H':Hp}{kvs:List (List Key×V)}{xs:List (List Key×Addr×Value)}(r:KT H kvs xs)(ht:∀ b ys,H b=some (.tup ys)->H' b=some (.tup ys)):KT H' kvs xs :=
 Paired.mapP r fun _ _ z=>⟨z.1,ht _ _ z.2.1,z.2.2⟩
section
variable {P:Program} {w:World} {H:Hp} {h:Heap} {a:Addr}
end
section
variable {X:Cx} {pins:List (Addr×Obj)} {σ:St} {H:Hp} {s:Shared} {a:Addr} {y v:V} {u r:Value} {o:Option V} {A:Around} {E:Value->Shared->Prop}
end
section
variable {X:Cx} {pins:List (Addr×Obj)} {σ:St} {H:Hp} {s:Shared} {a:Addr} {kvs:List (Key×V)} {k:Key} {u:Value} {A:Around} {E:Value->Shared->Prop}
end
def b5E(i:Expr):Prop:=∀ ov iv,subscripted i false ov iv=operate [ov,iv] (getItem ov iv)
theorem b1w{prog:Program}{w:World}{A:Around}{E:Value->Shared->Prop}{s:Shared}{env:Env}{value slice:Expr}{pos:Pos}{T id:String}{Q:Value->Shared->Prop}
  (hl:typeLookup (.type T) "__getitem__" = pure (some (.builtin id))) (hs:b5E slice)
  (h:wpAny (model prog w) A (eval value env) (fun o s₁=>wpAny (model prog w) A (eval slice env) (fun i s₂=>s₂.TypeIs o T/\wpAny (model prog w) A (getItem o i) Q E s₂) E s₁) E s) :
  wpAny (model prog w) A (eval (.Subscript value slice pos) env) Q E s:=by
 refine Subscript_ (wpAny_mono h (fun o s₁ h₁=>wpAny_mono h₁ (fun i s₂ h₂=>?_) fun _ _ x=>x) fun _ _ x=>x);obtain ⟨hT,h₂⟩:=h₂;unfold subscriptTail;refine wpAny_bind ?_;rw [getitemInPython_of_ne hT.not_modules];refine wpAny_bind (wpAny_specialOf hT hl ?_)
 have fin:wpAny (model prog w) A (subscripted slice false o i) (fun r s₃=>wpAny (model prog w) A (letTemporaryGo value o r >>= fun _=>pure r) Q E s₃) E s₂:=by
  rw [hs o i];exact wpAny_operating (wpAny_mono h₂ (fun r s₃ h₃=>wpAny_bind (wpAny_letTemporaryGo (wpAny_pure h₃))) fun _ _ x=>x)
 first
  |exact wpAny_pure (wpAny_bind fin)
  |exact wpAny_bind (wpAny_pure (wpAny_bind fin))
  |exact wpAny_bind fin
section
variable {X:Cx} {o i e value:Expr} {pos pos' tpos:Pos} {td ty tv:TE}
end
section
variable {X:Cx} {pos:Pos}
end
section
variable {X:Cx} {pins:List (Addr×Obj)} {σ:St} {H:Hp} {s:Shared} {a:Addr} {y d:V} {u r:Value} {o:Option V} {A:Around} {E:Value->Shared->Prop}
end
section
variable {X:Cx} {o e f:Expr} {apos cpos:Pos} {td ty tx:TE}
end
section
variable {X:Cx} {pins:List (Addr×Obj)} {σ:St} {H:Hp} {s:Shared} {a:Addr} {kvs:List (Key×V)} {A:Around} {E:Value->Shared->Prop}
end
section
variable {X:Cx} {pins:List (Addr×Obj)} {σ:St} {H:Hp} {s:Shared} {a:Addr} {y:V} {u:Value} {A:Around} {E:Value->Shared->Prop}
end
end L2
namespace HT
open PySem PyProof.Rows
def lexLt:List Int->List Int->Bool
 |[],[]=>false
 |[],_ :: _=>true
 |_ :: _,[]=>false
 |x :: xs,y :: ys=>if x=y then lexLt xs ys else decide (x < y)
section
open PySem.SeqAt
open PySem.AutoSeq1 (wpAny_loadPart')
open PySem.MeetsSeq PySem.MeetsSeq2 PySem.MeetsSeq3
end
section
variable {prog:Program} {w:World} {A:Around} {E:Value->Shared->Prop} {s:Shared}
theorem cat_tup{t b:Addr}{vs ws:List Value}{Q:Value->Shared->Prop}(ht:IsTup s.heap t vs.toArray)(hb:IsTup s.heap b ws.toArray)(hv:vs ≠ [])
  (h1:ws=[]->Q (.ref t) s) (h2:ws ≠ []->Q (.ref s.heap.objs.size) { s with heap:=s.heap.push { cls:=.type "tuple",data:=.seq (vs ++ ws).toArray } })
  (hsz:vs.length + ws.length <= sizeLine):wpAny (model prog w) A (binaryOp .Add (.ref t) (.ref b)) Q E s:=by
 obtain ⟨⟨cls,dd,data,sl⟩,ho,hc,n,hd⟩:=id ht;obtain ⟨⟨cls2,dd2,data2,sl2⟩,ho2,hc2,n2,hd2⟩:=id hb
 simp only at hc hd hc2 hd2
 subst hc hd hc2 hd2;have e:vs.toArray ++ ws.toArray=(vs ++ ws).toArray:=by simp
 by_cases hw:ws=[]
 ·exact concat_meets ⟨_,ho,rfl⟩ ⟨_,ho2,rfl⟩ noFill_tuple_add seq_tuple_add PySem.F.slot_tuple_add PySem.F.entry_tuple_add (PySem.F.args_tuple_add_2 _ _)
   (tuple_addW1 t b vs.toArray ws.toArray n n2 dd dd2 sl sl2 (by simpa using hv) (by simp [hw])) ⟨ho,ho2,h1 hw⟩
 ·refine concat_meets ⟨_,ho,rfl⟩ ⟨_,ho2,rfl⟩ noFill_tuple_add seq_tuple_add PySem.F.slot_tuple_add PySem.F.entry_tuple_add (PySem.F.args_tuple_add_2 _ _)
   (tuple_addW2 t b vs.toArray ws.toArray n n2 dd dd2 sl sl2 (by simpa using hv) (by simpa using hw) (by rw [List.size_toArray,List.size_toArray];exact hsz)) ⟨ho,ho2,?_⟩
  rw [e];exact h2 hw
def sIx(n d:Nat):Option Int->Nat
 |none=>d
 |some v=>if v < 0 then (v + (n:Int)).toNat else min v.toNat n
theorem sIx_nat(n d k:Nat):sIx n d (some (k:Int))=min k n:=by
 show (if (k:Int) < 0 then ((k:Int) + (n:Int)).toNat else min (k:Int).toNat n)=min k n;rw [if_neg (by omega),Int.toNat_natCast]
theorem b4T(n d:Nat)(hd:d <= n)(o:Option Int):sIx n d o <= n:=by
 cases o with
 |none=>exact hd
 |some v =>
  show (if v < 0 then (v + (n:Int)).toNat else min v.toNat n) <= n
  by_cases hv:v < 0
  ·rw [if_pos hv];omega
  ·rw [if_neg hv];exact Nat.min_le_right _ _
theorem a4S(v:Int)(n d:Nat):(if v < 0 then max (v + (n:Int)) 0 else min v (n:Int))=((sIx n d (some v):Nat):Int):=by
 show (if v < 0 then max (v + (n:Int)) 0 else min v (n:Int))=(((if v < 0 then (v + (n:Int)).toNat else min v.toNat n):Nat):Int)
 by_cases hv:v < 0
 ·simp only [if_pos hv];omega
 ·simp only [if_neg hv];omega
theorem a3s(lo hi:Option Int)(n:Nat):Builtin.Slice.sliceAdjust lo hi 1 (n:Int)=(((sIx n 0 lo:Nat):Int),((sIx n n hi:Nat):Int)):=by
 have h1:¬ ((1:Int) < 0):=by omega
 unfold Builtin.Slice.sliceAdjust;simp only [h1,if_false];refine Prod.ext ?_ ?_
 ·cases lo with
  |none=>rfl
  |some v=>exact a4S v n 0
 ·cases hi with
  |none=>rfl
  |some v=>exact a4S v n n
theorem a3p(i j:Nat):Builtin.Slice.slicePlaces (i:Int) (j:Int) 1=j - i:=by
 unfold Builtin.Slice.slicePlaces;have h1:(1:Int) > 0:=by omega
 simp only [h1,if_true,Int.ediv_one]
 split <;> omega
theorem a0q{v:Value}{o:Option Int}{Q:Option Int->Shared->Prop}(p:IsPart v o)(h:Q o s):wpAny (model prog w) A (Builtin.Slice.slicePartIndex v) Q E s:=by
 cases p with
 |none=>exact slicePart_none h
 |int i t=>exact slicePart_int h
theorem M8{sl:Addr}{vl vu:Value}{lo hi:Option Int}{n:Nat}{Q:Int×Int×Nat->Shared->Prop}(hs:s.heap.IsSliceOf sl vl vu .none)(pl:IsPart vl lo)(pu:IsPart vu hi)
  (h:Q (((sIx n 0 lo:Nat):Int),1,sIx n n hi - sIx n 0 lo) s):wpAny (model prog w) A (Builtin.Slice.sliceApplied (.ref sl) (pure (n:Int))) Q E s:=by
 obtain ⟨os,hos,hcs,hds⟩:=id hs;unfold Builtin.Slice.sliceApplied Builtin.Slice.sliceFields;refine wpAny_bind (wpAny_bind (wpAny_field hos hds (x:=vl) rfl (wpAny_bind (wpAny_field hos hds (x:=vu) rfl (wpAny_bind (wpAny_field hos hds (x:=.none) rfl (wpAny_pure ?_)))))));refine wpAny_bind (slicePart_none ?_);show wpAny _ _ (if ((1:Int) == 0)=true then _ else _) _ _ s;rw [if_neg (by decide)];refine wpAny_bind (a0q pl (wpAny_bind (a0q pu (wpAny_bind (wpAny_pure ?_)))));show wpAny _ _ (match Builtin.Slice.sliceAdjust lo hi 1 (n:Int) with | (lo,hi)=>pure (lo,(1:Int),Builtin.Slice.slicePlaces lo hi 1)) _ _ s;rw [a3s lo hi n];show wpAny _ _ (pure (((sIx n 0 lo:Nat):Int),(1:Int),Builtin.Slice.slicePlaces ((sIx n 0 lo:Nat):Int) ((sIx n n hi:Nat):Int) 1)) _ _ s;rw [a3p];exact wpAny_pure h
theorem a6W(xs:Array Value)(i k:Nat):((List.range k).filterMap fun (m:Nat)=>xs[((i:Int) + (m:Int) * 1).toNat]?).toArray=((xs.toList.drop i).take k).toArray:=by
 have e:(fun (m:Nat)=>xs[((i:Int) + (m:Int) * 1).toNat]?)=fun m=>xs[i + m]?:=by
  funext m
  have:((i:Int) + (m:Int) * 1).toNat=i + m:=by omega
  rw [this]
 rw [e]
 have:=pick_run xs i k
 rw [List.filterMap_map] at this;have e2:((fun x=>xs[x]?) ∘ fun x=>i + x)=fun m=>xs[i + m]?:=rfl;rw [e2] at this;rw [this]
theorem getItem_tuple_cut{t sl:Addr}{items:Array Value}{vl vu:Value}{lo hi:Option Int}{Q:Value->Shared->Prop}(ht:IsTup s.heap t items)(hs:s.heap.IsSliceOf sl vl vu .none)(pl:IsPart vl lo)(pu:IsPart vu hi)
  (hw:¬ (sIx items.size 0 lo=0/\sIx items.size items.size hi=items.size))
  (h:Q (.ref s.heap.objs.size) { s with heap:=s.heap.push { cls:=.type "tuple",data:=.seq ((items.toList.drop (sIx items.size 0 lo)).take (sIx items.size items.size hi - sIx items.size 0 lo)).toArray } })
  (hsz:items.size <= sizeLine):wpAny (model prog w) A (getItem (.ref t) (.ref sl)) Q E s:=by
 have htake:sizeOk (.seq ((items.toList.drop (sIx items.size 0 lo)).take (sIx items.size items.size hi - sIx items.size 0 lo)).toArray):=by
  show ((items.toList.drop (sIx items.size 0 lo)).take (sIx items.size items.size hi - sIx items.size 0 lo)).toArray.size <= sizeLine;rw [List.size_toArray,List.length_take,List.length_drop,Array.length_toList];omega
 have hj:sIx items.size items.size hi <= items.size:=b4T _ _ (Nat.le_refl _) hi;obtain ⟨os,hos,hcs,hds⟩:=id hs;have hTs:s.TypeIs (.ref sl) "slice":=⟨os,hos,hcs⟩
 unfold getItem
 try with_reducible refine wpAny_holding ?_
 first | refine wpAny_bind (wpAny_pure ?_) | skip
 refine wpAny_bind (wpAny_sequenceKey ht.typeIs (by decide) ?_)
 refine wpAny_bind (wpAny_callSpecial?_slot (name:=Str.ofString "__getitem__") ht.typeIs PyProof.Rows.slot_tuple_getitem
  (wpAny_call_entry PyProof.Rows.slot_tuple_getitem ht.typeIs entry_tuple_getitem ?_ (args_tuple_getitem _ _)))
 show wpAny _ _ (Builtin.Tuple.tupleItemsOf (.ref t) >>= _) _ _ s;refine wpAny_bind (tupleItemsOf_ ht ?_);refine wpAny_bind (wpAny_typeOf hTs ?_);rw [if_pos (by decide)];refine wpAny_bind (M8 hs pl pu ?_)
 have hno:¬ ((((sIx items.size 0 lo:Nat):Int) == 0 && (1:Int) == 1 && (sIx items.size items.size hi - sIx items.size 0 lo) == items.size)=true):=by
  intro q;rw [Bool.and_eq_true,Bool.and_eq_true] at q;have q1:((sIx items.size 0 lo:Nat):Int)=0:=eq_of_beq q.1.1;have q2:sIx items.size items.size hi - sIx items.size 0 lo=items.size:=eq_of_beq q.2;exact hw ⟨by omega,by omega⟩
 show wpAny _ _ (if (((sIx items.size 0 lo:Nat):Int) == 0 && (1:Int) == 1 && (sIx items.size items.size hi - sIx items.size 0 lo) == items.size)=true then _ else _) _ _ s;rw [if_neg hno,a6W]
 first
  |exact wpAny_bind (m:=Builtin.Tuple.tupleExact _) (wpAny_newObj_type (wpAny_pure ⟨_,rfl,wpAny_pure h⟩) htake)
  |exact wpAny_bind (m:=Builtin.Tuple.tupleExact _) (wpAny_newObj_type (wpAny_bind (wpAny_pure (wpAny_pure ⟨_,rfl,wpAny_pure h⟩))) htake)
  |exact wpAny_bind (wpAny_bind (m:=Builtin.Tuple.tupleExact _) (wpAny_newObj_type (wpAny_pure (wpAny_pure ⟨_,rfl,wpAny_pure h⟩)) htake))
  |exact wpAny_bind (wpAny_bind (m:=Builtin.Tuple.tupleExact _) (wpAny_newObj_type (wpAny_pure ⟨_,rfl,wpAny_pure h⟩) htake))
end
end HT
namespace L2
open PySem PySem.Spec PyProof.Rows
abbrev TO:=St->Hp->(Option Int->Hp->Prop)->Prop
def PO(X:Cx)(e:Option Expr)(t:TO):Prop :=
 ∀ (pins:List (Addr×Obj)) (s:Shared) (σ:St) (H:Hp) (Q:Option Int->Hp->Prop),Inv X pins σ H s->t σ H Q ->
  wpAny (model X.prog X.w) X.A (evalPart e X.env) (fun u s'=>∃ o H',Inv X pins σ H' s'/\IsPart u o/\Q o H') X.xe s
def b2A:TO:=fun _ H Q=>Q none H
def b7F(t:TE):TO:=fun σ H Q=>t σ H fun x H1=>∃ i,x = .int i/\Q (some i) H1
section
variable {X:Cx} {e:Expr} {te:TE} {lo hi:Option Expr} {tl th:TO} {pos p2:Pos}
theorem b1N:PO X none b2A:=by
 intro pins s σ H Q I h;rw [evalPart_none];exact wpAny_pure ⟨none,H,I,.none,h⟩
theorem b1x(h:PE X e te):PO X (some e) (b7F te):=by
 intro pins s σ H Q I hw;rw [evalPart_some];refine thn (h pins s σ H _ I hw) fun u s1 zz0=>?_;obtain ⟨x,H1,I1,r1,q1⟩:=zz0;obtain ⟨i,rfl,q⟩:=q1;obtain ⟨t,rfl⟩:=r1;exact ⟨some i,H1,I1,.int i t,q⟩
def SlR(X:Cx)(r:V->Option Int->Option Int->Hp->VK->Prop):Prop :=
 ∀ (pins:List (Addr×Obj)) (s:Shared) (σ:St) (H:Hp) (x:V) (v vl vu:Value) (lo hi:Option Int) (sl:Addr) (Q:VK),Inv X pins σ H s->RelV x v->s.heap.IsSliceOf sl vl vu .none->IsPart vl lo->IsPart vu hi->r x lo hi H Q ->
  ∃ T id,typeLookup (.type T) "__getitem__" = pure (some (.builtin id))/\s.TypeIs v T/\wpAny (model X.prog X.w) X.A (getItem v (.ref sl)) (EP X pins σ Q) X.xe s
theorem SlR.or{r r':V->Option Int->Option Int->Hp->VK->Prop}(h:SlR X r)(h':SlR X r'):SlR X (fun x lo hi H Q=>r x lo hi H Q\/r' x lo hi H Q):=by
 intro pins s σ H x v vl vu lo hi sl Q I rx hs pl pu q
 rcases q with q | q
 ·exact h pins s σ H x v vl vu lo hi sl Q I rx hs pl pu q
 ·exact h' pins s σ H x v vl vu lo hi sl Q I rx hs pl pu q
def tSl(r:V->Option Int->Option Int->Hp->VK->Prop)(te:TE)(tl th:TO):TE:=fun σ H Q=>te σ H fun x H1=>tl σ H1 fun l H2=>th σ H2 fun u H3=>r x l u H3 Q
theorem a8G{r:V->Option Int->Option Int->Hp->VK->Prop}(hr:SlR X r)(he:PE X e te)(hl:PO X lo tl)(hu:PO X hi th):PE X (.Subscript e (.Slice lo hi none p2) pos) (tSl r te tl th):=by
 intro pins s σ H Q I h;refine Subscript_ (thn (he pins s σ H _ I h) fun v s1 zz0=>?_);obtain ⟨x,H1,I1,r1,q1⟩:=zz0;refine wpAny_Slice (thn (hl pins s1 σ H1 _ I1 q1) fun vl s2 ⟨l,H2,I2,pl,q2⟩=>thn (hu pins s2 σ H2 _ I2 q2) fun vu s3 zz0=>?_);obtain ⟨u,H3,I3,pu,q3⟩:=zz0;rw [evalPart_none];refine wpAny_pure ?_;have I4:Inv X pins σ H3 { s3 with heap:=s3.heap.push { cls:=.type "slice",data:=.fields #[vl,vu,.none] } }:=I3.kept (t':=s3.toks) fun b ob q=>Heap.get?_push_of_some _ q;obtain ⟨T,id,hT,ht,hg⟩:=hr pins { s3 with heap:=s3.heap.push { cls:=.type "slice",data:=.fields #[vl,vu,.none] } } σ H3 x v vl vu l u s3.heap.objs.size Q I4 r1 (Heap.IsSliceOf.new ..) pl pu q3;show wpAny (model X.prog X.w) X.A (subscriptTail e (.Slice lo hi none p2) v (.ref s3.heap.objs.size)) (EP X pins σ Q) X.xe { s3 with heap:=s3.heap.push { cls:=.type "slice",data:=.fields #[vl,vu,.none] } };exact tail_any (ops:=[.ref s3.heap.objs.size,v]) ht hT hg (by with_unfolding_all rfl)
def V8(xs:List V)(lo hi:Option Int):List V:=(xs.drop (HT.sIx xs.length 0 lo)).take (HT.sIx xs.length xs.length hi - HT.sIx xs.length 0 lo)
theorem Y3(xs:List V)(lo hi:Option Int):(V8 xs lo hi).length <= xs.length:=by
 unfold V8;rw [List.length_take,List.length_drop];omega
def b9L(K:PySem.W.Frag):V->Option Int->Option Int->Hp->VK->Prop:=fun x lo hi H Q=>∃ a xs,x = .ref a/\SqT K H a xs /\
 ¬ (HT.sIx xs.length 0 lo=0/\HT.sIx xs.length xs.length hi=xs.length)/\∀ p,H p=none->Q (.ref p) (upd H p (.tup (V8 xs lo hi)))
theorem b6u:SlR X (b9L X.K):=by
 intro pins s σ H x v vl vu lo hi sl Q I rx hs pl pu h;obtain ⟨a,xs,rfl,hx,hw,q⟩:=h;cases rx;obtain ⟨its,r,ht,hz⟩:=I.tuple hx;have hlen:its.toArray.size=xs.length:=by rw [List.size_toArray];exact r.length.symm
 refine ⟨"tuple",_,PyProof.Rows.slot_tuple_getitem.lookup,ht.typeIs,?_⟩;refine HT.getItem_tuple_cut ht hs pl pu (by rw [hlen];exact hw) ?_ (by rw [hlen];exact hz);rw [hlen];refine ⟨.ref s.heap.objs.size,_,I.laid (t':=s.toks) (o:=.tup (V8 xs lo hi)) (fun b ob q=>Heap.get?_push_of_some _ q) (Nat.le_refl _) ?_,rfl,q _ (I.hok.fresh (Nat.le_refl _))⟩;exact ⟨Nat.le_trans (Y3 xs lo hi) hz,_,(r.drop (HT.sIx xs.length 0 lo)).take (HT.sIx xs.length xs.length hi - HT.sIx xs.length 0 lo),IsTup.new _ _⟩
def b7k(K:PySem.W.Frag):R2:=fun x y H Q=>∃ a b xs ys,x = .ref a/\y = .ref b/\SqT K H a xs/\SqT K H b ys/\xs ≠ []/\xs.length + ys.length <= sizeLine /\
 (ys=[]->Q (.ref a) H)/\(ys ≠ []->∀ p,H p=none->Q (.ref p) (upd H p (.tup (xs ++ ys))))
theorem Vals.nil_iff{xs:List V}{us:List Value}(r:Vals xs us):us=[] ↔ xs=[]:=by
 cases r with
 |nil=>simp
 |cons _ _=>simp
theorem b1s:OpR X (binaryOp .Add) (b7k X.K):=by
 intro pins s σ H x y v u Q I rx ry h;obtain ⟨a,b,xs,ys,rfl,rfl,ha,hb,hx,hz,q1,q2⟩:=h;cases rx;cases ry;obtain ⟨its,r1,p1,_⟩:=I.tuple ha;obtain ⟨its2,r2,p2,_⟩:=I.tuple hb;refine HT.cat_tup p1 p2 (fun z=>hx (r1.nil_iff.mp z)) (fun z=>⟨.ref a,H,I,rfl,q1 (r2.nil_iff.mp z)⟩) (fun z=>?_) (by rw [<- r1.length,<- r2.length];exact hz);refine ⟨.ref s.heap.objs.size,_,I.laid (t':=s.toks) (o:=.tup (xs ++ ys)) (fun b ob q=>Heap.get?_push_of_some _ q) (Nat.le_refl _) ?_,rfl,q2 (fun w=>z (r2.nil_iff.mpr w)) _ (I.hok.fresh (Nat.le_refl _))⟩;exact ⟨by rw [List.length_append];exact hz,_,r1.append r2,IsTup.new _ _⟩
end
end L2
namespace L2
open PySem PySem.Spec PyProof.Rows
def ixN(n:Nat)(i:Int):Option Nat:=if 0 <= i then (if i < n then some i.toNat else none) else if -(n:Int) <= i then some (i + n).toNat else none
def atI{α:Type}(xs:List α)(i:Int):Option α:=(ixN xs.length i).bind fun j=>xs[j]?
theorem a4Z{n:Nat}{i:Int}{j:Nat}(h:ixN n i=some j):seqIndex? i n=some j/\j < n/\-(n:Int) <= i/\i < n:=by
 unfold ixN at h
 by_cases h0:0 <= i
 ·rw [if_pos h0] at h
  by_cases h1:i < n
  ·rw [if_pos h1] at h;have e:i.toNat=j:=Option.some.inj h;exact ⟨by rw [seqIndex_of h0 h1,e],by omega,by omega,h1⟩
  ·rw [if_neg h1] at h;cases h
 ·rw [if_neg h0] at h
  by_cases h1:-(n:Int) <= i
  ·rw [if_pos h1] at h;have e:(i + n).toNat=j:=Option.some.inj h;exact ⟨by rw [seqIndex_neg (by omega) h1,e],by omega,h1,by omega⟩
  ·rw [if_neg h1] at h;cases h
theorem a1W{α:Type}{xs:List α}{i:Int}{v:α}(h:atI xs i=some v):∃ j,seqIndex? i xs.length=some j/\xs[j]?=some v/\j < xs.length/\-(xs.length:Int) <= i/\i < xs.length:=by
 unfold atI at h
 cases e:ixN xs.length i with
 |none=>rw [e] at h;cases h
 |some j =>
  rw [e] at h;obtain ⟨h1,h2,h3,h4⟩:=a4Z e;exact ⟨j,h1,h,h2,h3,h4⟩
def a4c(b:Expr):Prop:=∀ o i,subscripted b false o i=operate [o,i] (getItem o i)
def IxR(X:Cx)(r:R2):Prop :=
 ∀ (value slice:Expr) (pins:List (Addr×Obj)) (s:Shared) (σ:St) (H:Hp) (x y:V) (v u:Value) (Q:VK),Inv X pins σ H s->RelV x v->RelV y u->r x y H Q ->
  subscripted slice false v u=operate [v,u] (getItem v u)->wpAny (model X.prog X.w) X.A (subscriptTail value slice v u) (EP X pins σ Q) X.xe s
def MtR(X:Cx)(id:String)(r:V->List V->Hp->VK->Prop):Prop :=
 ∀ (pins:List (Addr×Obj)) (s:Shared) (σ:St) (H:Hp) (x:V) (xs:List V) (v:Value) (us:List Value) (Q:VK),Inv X pins σ H s->RelV x v->Vals xs us->r x xs H Q ->
  wpAny (model X.prog X.w) X.A (call (.builtin id) (v :: us)) (EP X pins σ Q) X.xe s
section
variable {X:Cx} {a b:Expr} {ta tb:TE} {pos:Pos}
theorem IxR.or{r r':R2}(h:IxR X r)(h':IxR X r'):IxR X (fun x y H Q=>r x y H Q\/r' x y H Q):=by
 intro value slice pins s σ H x y v u Q I rx ry q hs
 rcases q with q | q
 ·exact h value slice pins s σ H x y v u Q I rx ry q hs
 ·exact h' value slice pins s σ H x y v u Q I rx ry q hs
theorem b7d{r:R2}(hr:IxR X r)(ha:PE X a ta)(hb:PE X b tb)(hs:a4c b):PE X (.Subscript a b pos) (tOp r ta tb):=by
 intro pins s σ H Q I h;exact Subscript_ (b5L ha hb I h fun v u s2 x y H2 I2 rx ry q=>hr a b pins s2 σ H2 x y v u Q I2 rx ry q (hs _ _))
def b8e(K:PySem.W.Frag):R2:=fun x y H Q=>∃ p xs i v,x = .ref p/\y = .int i/\SqL K H p xs/\atI xs i=some v/\Q v H
def b7w(K:PySem.W.Frag):R2:=fun x y H Q=>∃ p xs i v,x = .ref p/\y = .int i/\SqT K H p xs/\atI xs i=some v/\Q v H
def b7r:R2:=fun x y H Q=>∃ z i c,x = .str z/\y = .int i/\z.length <= sizeLine/\atI z.cps.toList i=some c/\Q (.str ⟨#[c]⟩) H
theorem ix_list:IxR X (b8e X.K):=by
 intro value slice pins s σ H x y v u Q I rx ry h hs;obtain ⟨p,xs,i,z,rfl,rfl,hq,he,q⟩:=h;cases rx;obtain ⟨t,rfl⟩:=ry;obtain ⟨its,r,pl,hz⟩:=I.list hq;obtain ⟨j,h1,h2,h3,h4,h5⟩:=a1W he;obtain ⟨w,ew,rw'⟩:=r.get h2;have hl:=r.length;have hn:=W7;have fin:EP X pins σ Q w s:=⟨z,H,I,rw',q⟩
 by_cases h0:0 <= i
 ·have hj:i.toNat=j:=by
   rw [seqIndex_of h0 h5] at h1;exact Option.some.inj h1
  exact item_listR pl.isList h0 (by omega) (by rw [hj];simpa using ew) fin hs
 ·have hj:(i + (its.toArray.size:Int)).toNat=j:=by
   rw [seqIndex_neg (by omega) h4] at h1;rw [List.size_toArray,<- hl];exact Option.some.inj h1
  exact subscriptTail_builtinR (x:=w) pl.isList.typeIs slot_list_getitem.lookup
   (wpAny_getItem_list_neg (Q:=fun r s'=>r=w/\EP X pins σ Q r s') pl.isList (by omega) (by rw [List.size_toArray] <;> omega) (by omega) (by rw [hj];simpa using ew) ⟨rfl,fin⟩) hs
theorem ix_tup:IxR X (b7w X.K):=by
 intro value slice pins s σ H x y v u Q I rx ry h hs;obtain ⟨p,xs,i,z,rfl,rfl,hq,he,q⟩:=h;cases rx;obtain ⟨t,rfl⟩:=ry;obtain ⟨its,r,pl,hz⟩:=I.tuple hq;obtain ⟨j,h1,h2,h3,h4,h5⟩:=a1W he;obtain ⟨w,ew,rw'⟩:=r.get h2;have hl:=r.length;have hn:=W7;have fin:EP X pins σ Q w s:=⟨z,H,I,rw',q⟩
 exact subscriptTail_builtinR (x:=w) pl.typeIs slot_tuple_getitem.lookup
  (getItem_tuple (j:=j) (Q:=fun r s'=>r=w/\EP X pins σ Q r s') pl (by omega) (by omega) (by rw [List.size_toArray,<- hl];exact h1) (by simpa using ew) ⟨rfl,fin⟩) hs
theorem b6z:IxR X b7r:=by
 intro value slice pins s σ H x y v u Q I rx ry h hs;obtain ⟨z,i,c,rfl,rfl,hz,he,q⟩:=h;obtain ⟨t,rfl⟩:=rx;obtain ⟨t',rfl⟩:=ry;obtain ⟨j,h1,h2,h3,h4,h5⟩:=a1W he;have hl:z.cps.toList.length=z.length:=by simp [Str.length]
 rw [hl] at h1 h4 h5;have hn:=W7
 exact tail_any (typeIs_str s z t) slot_str_getitem.lookup (getItem_str (c:=c) (by
  have e1:decide (i < -(2 ^ 63:Int))=false:=decide_eq_false (by omega);have e2:decide (i ≥ 2 ^ 63)=false:=decide_eq_false (by omega);rw [e1,e2,Bool.or_false]) (by rw [h1];simpa using h2) ⟨.str ⟨#[c]⟩,H,I.tok _,⟨_,rfl⟩,q⟩) hs
def rIx(K:PySem.W.Frag):R2:=fun x y H Q=>b8e K x y H Q\/b7w K x y H Q\/b7r x y H Q
theorem b5t:IxR X (rIx X.K):=ix_list.or (ix_tup.or b6z)
theorem a3v(its:List Value)(n j:Nat)(u:Value):Obj.mapSeq (·.setIfInBounds j u) { cls:=.type "list",data:=.seq its.toArray n }={ cls:=.type "list",data:=.seq (its.set j u).toArray n }:=by
 simp [Obj.mapSeq]
theorem Inv.lst{pins:List (Addr×Obj)}{σ:St}{H:Hp}{s:Shared}{p:Addr}{xs:List V}(I:Inv X pins σ H s)(h:H p=some (.lst xs)) :
  ∃ (its:List Value) (n:Nat),Vals xs its/\s.heap.get? p=some { cls:=.type "list",data:=.seq its.toArray n }/\xs.length <= sizeLine:=by
 obtain ⟨z,its,n,r,e⟩:=I.hok p _ h;exact ⟨its,n,r,e,z⟩
theorem Inv.lstUpd{pins:List (Addr×Obj)}{σ:St}{H:Hp}{s:Shared}{p:Addr}{xs ys:List V}{its its':List Value}{n n':Nat}{f:Obj->Obj}(I:Inv X pins σ H s)(h:H p=some (.lst xs))
  (ho:s.heap.get? p=some { cls:=.type "list",data:=.seq its.toArray n }) (hf:f { cls:=.type "list",data:=.seq its.toArray n }={ cls:=.type "list",data:=.seq its'.toArray n' }) (r:Vals ys its') (hz:ys.length <= sizeLine) (t:Nat) :
  Inv X pins σ (upd H p (.lst ys)) { s with heap:=s.heap.update p f,toks:=t }:=by
 have e:(s.heap.update p f).get? p=some { cls:=.type "list",data:=.seq its'.toArray n' }:=by
  rw [Heap.get?_update_self f ho (by rw [hf] <;> rfl),hf]
 refine I.write (x:=p) (e:=p) (by rw [h];trivial) (.inl rfl) (fun b u hb q=>(Heap.get?_update_other _ _ (Ne.symm hb)).trans q) ⟨_,e⟩ ?_;exact ⟨hz,its',n',r,e⟩
def b2K:V->V->V->Hp->(Hp->Prop)->Prop:=fun o i v H Q=>∃ p xs k j,o = .ref p/\i = .int k/\H p=some (.lst xs)/\ixN xs.length k=some j/\Q (upd H p (.lst (xs.set j v)))
theorem a6Q:b7W X b2K:=by
 intro pins s σ H o i v ov iv u Q I ro ri rv h;obtain ⟨p,xs,k,j,rfl,rfl,hp,hj,q⟩:=h;cases ro;obtain ⟨t,rfl⟩:=ri;obtain ⟨its,n,r,ho,hz⟩:=I.lst hp;obtain ⟨h1,h2,h3,h4⟩:=a4Z hj;have hl:=r.length;have hn:=W7
 have I':Inv X pins σ (upd H p (.lst (xs.set j v))) { s with heap:=s.heap.update p (Obj.mapSeq (·.setIfInBounds j u)) } :=
  I.lstUpd hp ho (a3v its n j u) (r.set rv j) (by rw [List.length_set];exact hz) s.toks
 by_cases h0:0 <= k
 ·have hk:k.toNat=j:=by
   rw [seqIndex_of h0 h4] at h1;exact Option.some.inj h1
  exact PySem.W.ki_setAt ho h0 (by omega) (by rw [List.size_toArray,<- hl];exact h4) (by rw [hk];exact ⟨_,I',q⟩)
 ·have hk:(k + (its.toArray.size:Int)).toNat=j:=by
   rw [seqIndex_neg (by omega) h3] at h1;rw [List.size_toArray,<- hl];exact Option.some.inj h1
  exact PySem.W.ki_setBack ho (by omega) (by rw [List.size_toArray,<- hl];exact h3) (by omega) (by rw [hk];exact ⟨_,I',q⟩)
theorem a1A(lo hi:Option Int)(n:Nat):(sliceBounds lo hi none n).1=((HT.sIx n 0 lo:Nat):Int)/\(sliceBounds lo hi none n).2.1=((HT.sIx n n hi:Nat):Int)/\(sliceBounds lo hi none n).2.2=1:=by
 refine ⟨?_,?_,rfl⟩
 ·cases lo with
  |none=>simp [sliceBounds,HT.sIx]
  |some i =>
   simp only [sliceBounds,HT.sIx,Option.getD_none,show (1:Int) > 0 by decide,if_true]
   by_cases h:i < 0
   ·simp only [h,if_true] <;> omega
   ·simp only [h,if_false] <;> omega
 ·cases hi with
  |none=>simp [sliceBounds,HT.sIx]
  |some i =>
   simp only [sliceBounds,HT.sIx,Option.getD_none,show (1:Int) > 0 by decide,if_true]
   by_cases h:i < 0
   ·simp only [h,if_true] <;> omega
   ·simp only [h,if_false] <;> omega
theorem a0K(its:List Value)(lo hi:Option Int):slicePick its.toArray lo hi none=((its.drop (HT.sIx its.length 0 lo)).take (HT.sIx its.length its.length hi - HT.sIx its.length 0 lo)).toArray:=by
 obtain ⟨h1,h2,h3⟩:=a1A lo hi its.toArray.size;unfold slicePick;rw [h1,h2,h3];simp only [sliceRange_one,pick_run,List.size_toArray] <;> rfl
def b9o(K:PySem.W.Frag):V->Option Int->Option Int->Hp->VK->Prop:=fun x lo hi H Q=>∃ a xs,x = .ref a/\SqL K H a xs/\∀ p,H p=none->Q (.ref p) (upd H p (.lst (V8 xs lo hi)))
theorem b1E:SlR X (b9o X.K):=by
 intro pins s σ H x v vl vu lo hi sl Q I rx hs pl pu h;obtain ⟨a,xs,rfl,hx,q⟩:=h;cases rx;obtain ⟨its,r,ht,hz⟩:=I.list hx;have hlen:=r.length;refine ⟨"list",_,slot_list_getitem.lookup,ht.isList.typeIs,?_⟩;refine wpAny_getItem_list_slice ht.isList hs pl pu .none (by simp) ?_ (by rw [List.size_toArray] <;> omega);rw [a0K,<- hlen];refine ⟨.ref s.heap.objs.size,_,I.laid (t':=s.toks) (o:=.lst (V8 xs lo hi)) (fun b ob q=>Heap.get?_push_of_some _ q) (Nat.le_refl _) ?_,rfl,q _ (I.hok.fresh (Nat.le_refl _))⟩;exact ⟨Nat.le_trans (Y3 xs lo hi) hz,_,0,(r.drop (HT.sIx xs.length 0 lo)).take (HT.sIx xs.length xs.length hi - HT.sIx xs.length 0 lo),Heap.get?_push_size _ rfl⟩
def R0:V->Bool
 |.non=>true
 |.bl _=>true
 |.int _=>true
 |.str _=>true
 |_=>false
def eqV:V->V->Bool
 |.non,.non=>true
 |.bl a,.bl b=>a == b
 |.bl a,.int b=>(if a then 1 else 0) == b
 |.int a,.bl b=>a == (if b then 1 else 0)
 |.int a,.int b=>a == b
 |.str a,.str b=>a == b
 |_,_=>false
theorem b6o{A:Around}{s:Shared}{y x:V}{u v:Value}(ry:RelV y u)(rx:RelV x v)(fy:R0 y=true)(fx:R0 x=true):SeqAt.EqAt A s u v (eqV y x):=by
 cases y with
 |non =>
  cases ry
  cases x with
  |non=>cases rx;exact SeqAt.EqAt.same _
  |bl b=>cases rx;exact SeqAt.EqAt.none_bool b
  |int b=>obtain ⟨t,rfl⟩:=rx;exact SeqAt.EqAt.none_int b t
  |str b=>obtain ⟨t,rfl⟩:=rx;exact SeqAt.EqAt.none_str b t
  |_=>exact absurd (show false=true from fx) Bool.false_ne_true
 |bl a =>
  cases ry
  cases x with
  |non=>cases rx;exact SeqAt.EqAt.bool_none a
  |bl b=>cases rx;exact SeqAt.EqAt.bool_bool a b
  |int b=>obtain ⟨t,rfl⟩:=rx;exact SeqAt.EqAt.bool_int a b t
  |str b=>obtain ⟨t,rfl⟩:=rx;exact SeqAt.EqAt.bool_str a b t
  |_=>exact absurd (show false=true from fx) Bool.false_ne_true
 |int a =>
  obtain ⟨t',rfl⟩:=ry
  cases x with
  |non=>cases rx;exact SeqAt.EqAt.int_none a t'
  |bl b=>cases rx;exact SeqAt.EqAt.int_bool a t' b
  |int b=>obtain ⟨t,rfl⟩:=rx;exact SeqAt.EqAt.int_int a t' b t
  |str b=>obtain ⟨t,rfl⟩:=rx;exact SeqAt.EqAt.int_str a t' b t
  |_=>exact absurd (show false=true from fx) Bool.false_ne_true
 |str a =>
  obtain ⟨t',rfl⟩:=ry
  cases x with
  |non=>cases rx;exact SeqAt.EqAt.str_none a t'
  |bl b=>cases rx;exact SeqAt.EqAt.str_bool a t' b
  |int b=>obtain ⟨t,rfl⟩:=rx;exact SeqAt.EqAt.str_int a t' b t
  |str b=>obtain ⟨t,rfl⟩:=rx;exact SeqAt.EqAt.str_str a t' b t
  |_=>exact absurd (show false=true from fx) Bool.false_ne_true
 |_=>exact absurd (show false=true from fy) Bool.false_ne_true
def eqU(x:V)(u:Value):Bool:=match u with
 |.none=>eqV .non x
 |.bool b=>eqV (.bl b) x
 |.int i _=>eqV (.int i) x
 |.str z _=>eqV (.str z) x
 |_=>false
theorem a6Y{x y:V}{u:Value}(r:RelV y u)(f:R0 y=true):eqU x u=eqV y x:=by
 cases y with
 |non=>cases r;rfl
 |bl b=>cases r;rfl
 |int i=>obtain ⟨t,rfl⟩:=r;rfl
 |str z=>obtain ⟨t,rfl⟩:=r;rfl
 |_=>exact absurd (show false=true from f) Bool.false_ne_true
theorem U9{x:V}:∀ {xs:List V} {us:List Value},Vals xs us->xs.all R0=true->us.any (eqU x)=xs.any fun y=>eqV y x
 |_,_,.nil,_=>rfl
 |y :: xs,u :: us,.cons r t,f=>by
  rw [List.all_cons,Bool.and_eq_true] at f;rw [List.any_cons,List.any_cons,a6Y r f.1,U9 t f.2]
theorem P5{A:Around}{s:Shared}{x:V}{v:Value}(rx:RelV x v)(fx:R0 x=true):∀ {xs:List V} {us:List Value},Vals xs us->xs.all R0=true->∀ u ∈ us,SeqAt.EqAt A s u v (eqU x u)
 |_,_,.nil,_=>fun u hu=>by cases hu
 |y :: xs,u :: us,.cons r t,f=>fun u' hu=>by
  rw [List.all_cons,Bool.and_eq_true] at f
  rcases List.mem_cons.mp hu with rfl | hu
  ·rw [a6Y r f.1];exact b6o r rx f.1 fx
  ·exact P5 rx fx t f.2 u' hu
def inV(x:V)(xs:List V):Bool:=xs.any fun y=>eqV y x
def rIn(K:PySem.W.Frag)(neg:Bool):R2:=fun x y H Q=>∃ p xs,y = .ref p/\(SqL K H p xs\/SqT K H p xs)/\R0 x=true/\xs.all R0=true/\Q (.bl (if neg then !inV x xs else inV x xs)) H
theorem a5I:OpR X (compareOp .In) (rIn X.K false):=by
 intro pins s σ H x y v u Q I rx ry h;obtain ⟨p,xs,rfl,hq,fx,fs,q⟩:=h;cases ry
 rcases hq with hq | hq
 ·obtain ⟨its,r,pl,hz⟩:=I.list hq;refine SeqAt.in_listAt (eqU x) pl.isList (fun w hw=>P5 rx fx r fs w (by simpa using hw)) ⟨.bl _,H,I,rfl,?_⟩;rw [show its.toArray.any (eqU x)=its.any (eqU x) by simp,U9 r fs];exact q
 ·obtain ⟨its,r,pl,hz⟩:=I.tuple hq;refine SeqAt.in_tupleAt (eqU x) pl (fun w hw=>P5 rx fx r fs w (by simpa using hw)) ⟨.bl _,H,I,rfl,?_⟩;rw [show its.toArray.any (eqU x)=its.any (eqU x) by simp,U9 r fs];exact q
theorem a1O:OpR X (compareOp .NotIn) (rIn X.K true):=by
 intro pins s σ H x y v u Q I rx ry h;obtain ⟨p,xs,rfl,hq,fx,fs,q⟩:=h;cases ry
 rcases hq with hq | hq
 ·obtain ⟨its,r,pl,hz⟩:=I.list hq;refine SeqAt.notIn_listAt (eqU x) pl.isList (fun w hw=>P5 rx fx r fs w (by simpa using hw)) ⟨.bl _,H,I,rfl,?_⟩;rw [show its.toArray.any (eqU x)=its.any (eqU x) by simp,U9 r fs];exact q
 ·obtain ⟨its,r,pl,hz⟩:=I.tuple hq;refine SeqAt.notIn_tupleAt (eqU x) pl (fun w hw=>P5 rx fx r fs w (by simpa using hw)) ⟨.bl _,H,I,rfl,?_⟩;rw [show its.toArray.any (eqU x)=its.any (eqU x) by simp,U9 r fs];exact q
theorem a2a:CallR X (.type "list") (fun xs H Q=>∃ p ys,xs=[.ref p]/\(SqL X.K H p ys\/SqT X.K H p ys)/\∀ l,H l=none->Q (.ref l) (upd H l (.lst ys))):=by
 intro pins s σ H xs us Q I r h;obtain ⟨p,ys,rfl,hq,q⟩:=h;obtain ⟨u,rfl,rx⟩:=O8 r;cases rx
 have fin:∀ (its:List Value),Vals ys its->ys.length <= sizeLine->∀ (h':Heap) (c':Nat),(∀ b o',s.heap.get? b=some o'->h'.get? b=some o') ->
   h'.get? s.heap.objs.size=some { cls:=.type "list",dict:=none,data:=.seq its.toArray c',slots:=#[] }->EP X pins σ Q (.ref s.heap.objs.size) { s with heap:=h' }:=fun its r' hz h' c' kp e =>
  ⟨.ref s.heap.objs.size,_,I.laid (t':=s.toks) kp (Nat.le_refl _) (show ObjOk X.prog X.w _ h' _ (.lst ys) from ⟨hz,its,c',r',e⟩),rfl,q _ (I.hok.fresh (Nat.le_refl _))⟩
 rcases hq with hq | hq
 ·obtain ⟨its,r',pl,hz⟩:=I.list hq;have hlen:=r'.length;obtain ⟨o,ho,hc,n,hd⟩:=pl.isList;exact call_list_seq p (.inl rfl) ho hc hd (fun h' c' kp e=>fin its r' hz h' c' kp e) (by simp only [List.size_toArray] <;> omega)
 ·obtain ⟨its,r',pl,hz⟩:=I.tuple hq;have hlen:=r'.length;obtain ⟨o,ho,hc,n,hd⟩:=pl;exact call_list_seq p (.inr rfl) ho hc hd (fun h' c' kp e=>fin its r' hz h' c' kp e) (by simp only [List.size_toArray] <;> omega)
theorem a0I:CallR X (.type "tuple") (fun xs H Q=>∃ p ys,xs=[.ref p]/\((SqL X.K H p ys/\∀ l,H l=none->Q (.ref l) (upd H l (.tup ys)))\/(SqT X.K H p ys/\Q (.ref p) H))):=by
 intro pins s σ H xs us Q I r h;obtain ⟨p,ys,rfl,h⟩:=h;obtain ⟨u,rfl,rx⟩:=O8 r;cases rx
 rcases h with ⟨hq,q⟩ | ⟨hq,q⟩
 ·obtain ⟨its,r',pl,hz⟩:=I.list hq;have hlen:=r'.length;refine call_tuple_list pl.isList (fun h' kp=>?_) (by simp only [List.size_toArray] <;> omega);have I1:Inv X pins σ H { s with heap:=h' }:=I.kept (t':=s.toks) kp
  have I2:Inv X pins σ (upd H h'.objs.size (.tup ys)) { s with heap:=h'.push { cls:=.type "tuple",data:=.seq its.toArray } } :=
   I1.laid (t':=s.toks) (fun b o e=>Heap.get?_push_of_some _ e) (Nat.le_refl _) (show ObjOk X.prog X.w _ _ _ (.tup ys) from ⟨hz,its,r',IsTup.new _ _⟩)
  exact ⟨.ref h'.objs.size,_,I2,rfl,q _ (I1.hok.fresh (Nat.le_refl _))⟩
 ·obtain ⟨its,r',pl,hz⟩:=I.tuple hq;exact call_tuple_same pl ⟨.ref p,H,I,rfl,q⟩
def tyV(K:PySem.W.Frag)(T:String)(x:V)(H:Hp):Prop:=match x with
 |.str _=>T = "str"
 |.int _=>T = "int"
 |.ref p=>(T = "list"/\∃ xs,SqL K H p xs)\/(T = "tuple"/\∃ o,K.lookup p=some o/\o.cls = .type "tuple"/\o.dict=none) \/
   (T = "dict"/\((∃ kvs,H p=some (.dK kvs))\/∃ kvs,H p=some (.dT kvs)))\/(T = "set"/\∃ S n,H p=some (.set S n))
 |_=>False
theorem a6p{pins:List (Addr×Obj)}{σ:St}{H:Hp}{s:Shared}{T:String}{x:V}{v:Value}(I:Inv X pins σ H s)(r:RelV x v)(ty:tyV X.K T x H) :
  s.TypeIs v T/\∀ a,v = .ref a->∃ ob,s.heap.get? a=some ob/\ob.dict=none:=by
 cases x with
 |str z =>
  obtain ⟨t,rfl⟩:=r
  cases (show T = "str" from ty)
  exact ⟨typeIs_str s z t,fun _ e=>nomatch e⟩
 |int i =>
  obtain ⟨t,rfl⟩:=r
  cases (show T = "int" from ty)
  exact ⟨typeIs_int s i t,fun _ e=>nomatch e⟩
 |ref p =>
  cases r
  rcases ty with ⟨rfl,xs,hq⟩ | ⟨rfl,o,hk,hc,hd⟩ | ⟨rfl,hk⟩ | ⟨rfl,S,n,hk⟩
  ·obtain ⟨its,_,pl,_⟩:=I.list hq;refine ⟨pl.isList.typeIs,fun a e=>?_⟩;cases e;obtain ⟨o,n,e,c,hd,_⟩:=pl;exact ⟨o,e,hd⟩
  ·refine ⟨⟨o,I.kIn p o hk,hc⟩,fun a e=>?_⟩;cases e;exact ⟨o,I.kIn _ o hk,hd⟩
  ·have z:∃ o,s.heap.get? p=some o/\o.ExactDict:=by
    rcases hk with ⟨kvs,hk⟩ | ⟨kvs,hk⟩
    ·obtain ⟨_,_,_,_,o,_,_,e,ex,_⟩:=I.hok p _ hk;exact ⟨o,e,ex⟩
    ·obtain ⟨_,_,_,_,o,_,_,e,ex,_⟩:=I.hok p _ hk;exact ⟨o,e,ex⟩
   obtain ⟨o,e,ex⟩:=z;refine ⟨⟨o,e,ex.1⟩,fun a e2=>?_⟩;cases e2;exact ⟨o,e,ex.2.1⟩
  ·obtain ⟨o,_,_,_,e,ex,_⟩:=I.hok p _ hk;refine ⟨⟨o,e,ex.1⟩,fun a e2=>?_⟩;cases e2;exact ⟨o,e,ex.2.1⟩
 |_=>exact False.elim ty
def b9C(K:PySem.W.Frag)(T:String)(r:V->List V->Hp->VK->Prop)(to:TE):TE:=fun σ H Q=>to σ H fun x H1=>tyV K T x H1/\r x [] H1 Q
def tBM(K:PySem.W.Frag)(T:String)(r:V->List V->Hp->VK->Prop)(to:TE)(t:TA):TE:=fun σ H Q=>to σ H fun x H1=>tyV K T x H1/\t σ H1 fun xs H2=>r x xs H2 Q
variable {o e:Expr} {es:List Expr} {to:TE} {t:TA} {name:Str} {apos cpos:Pos} {T id:String} {r:V->List V->Hp->VK->Prop}
theorem a7K(pa:PlainAttrs T)(slot:Slot T name id)(hty:typeOf (.builtin id)=pure (.type "method_descriptor"))(hm:MtR X id r)(ho:PE X o to)
  (hbase:attributeBase o name X.env (eval o X.env)=eval o X.env:=by rfl) (hline:(apos.endLine == cpos.line)=true:=by rfl):PE X (.Call (.Attribute o name apos) [] [] cpos) (b9C X.K T r to):=by
 intro pins s σ H Q I h;refine wpAny_Call_method0_late hbase hline (thn (ho pins s σ H _ I h) fun v s1 zz0=>?_);obtain ⟨x,H1,I1,r1,ty,q1⟩:=zz0;obtain ⟨h1,h2⟩:=a6p I1 r1 ty;exact ⟨T,id,pa,slot,hty,h1,h2,Calls.callWith_builtin rfl (PySem.evalArgs_none (hm pins s1 σ H1 x [] v [] Q I1 r1 .nil q1))⟩
theorem b3l(pa:PlainAttrs T)(slot:Slot T name id)(hty:typeOf (.builtin id)=pure (.type "method_descriptor"))(hm:MtR X id r)(ho:PE X o to)(ha:PA X (e :: es) t)
  (hbase:attributeBase o name X.env (eval o X.env)=eval o X.env:=by rfl)
  (hfew:((backTo cpos (starEach (e :: es) X.env)).all (fun x=>!x.1) && (backToKw cpos (keywordEach [] X.env)).all (fun x=>x.1.isSome)
   && decide ((e :: es).length + ([]:List Keyword).length + (if ([]:List Keyword).isEmpty then 0 else 1) < 30))=true:=by rfl)
  (hline:(apos.endLine == cpos.line)=true:=by rfl) (hs:starEach (e :: es) X.env=(false,eval e X.env) :: starEach es X.env:=by rfl) (hplain:(backTo cpos (starEach es X.env)).any (·.1)=false:=by rfl) :
  PE X (.Call (.Attribute o name apos) (e :: es) [] cpos) (tBM X.K T r to t):=by
 intro pins s σ H Q I h;refine wpAny_Call_method_late hbase hfew hline rfl (thn (ho pins s σ H _ I h) fun v s1 zz0=>?_);obtain ⟨x,H1,I1,r1,ty,q1⟩:=zz0;obtain ⟨h1,h2⟩:=a6p I1 r1 ty;refine ⟨T,id,pa,slot,hty,h1,h2,?_⟩;have hA:=ha cpos pins s1 σ H1 _ I1 q1;rw [hs] at hA ⊢;refine Calls.callWith_builtin (by show (false || (backTo cpos (starEach es X.env)).any (·.1))=false;rw [hplain] <;> rfl) (Calls.evalArgs_plain ?_);exact thn hA fun us s2 ⟨vs,H2,I2,r2,q2⟩=>hm pins s2 σ H2 x vs v us Q I2 r1 r2 q2
end
end L2
namespace L2
open PySem PySem.Spec PyProof.Rows
def MtM(X:Cx)(id:String)(r:V->List V->Hp->VK->Prop):Prop :=
 ∀ (pins:List (Addr×Obj)) (s:Shared) (σ:St) (H:Hp) (x:V) (xs:List V) (v:Value) (us:List Value) (Q:VK),Inv X pins σ H s->RelV x v->Vals xs us->r x xs H Q ->
  wpAny (model X.prog X.w) X.A (call (.builtin id) (v :: us)) (EP X pins σ Q) X.xe s
theorem Vals.one{x:V}{us:List Value}(h:Vals [x] us):∃ u,us=[u]/\RelV x u:=by
 cases h with
 |cons r t=>cases t;exact ⟨_,rfl,r⟩
theorem Vals.zero:∀ {us:List Value},Vals [] us->us=[]
 |_,.nil=>rfl
theorem Vals.dropLast{xs:List V}{us:List Value}(h:Vals xs us):Vals xs.dropLast us.dropLast:=by
 induction h with
 |nil=>exact .nil
 |cons r t ih =>
  cases t with
  |nil=>exact .nil
  |cons q t'=>exact .cons r ih
theorem a3O{α:Type}(l:List α):l.eraseIdx (l.length - 1)=l.dropLast:=by
 induction l with
 |nil=>rfl
 |cons a r ih =>
  cases r with
  |nil=>rfl
  |cons b r =>
   have e:(a :: b :: r).length - 1=((b :: r).length - 1) + 1:=by
    have h1:(a :: b :: r).length=r.length + 2:=rfl;have h2:(b :: r).length=r.length + 1:=rfl;omega
   rw [e,List.eraseIdx_cons_succ,ih]
   all_goals rfl
section
variable {X:Cx} {pins:List (Addr×Obj)} {σ:St} {H:Hp} {s:Shared} {l b:Addr} {xs ys zs:List V}
theorem Inv.lset{its its':List Value}{n:Nat}{f:Array Value->Array Value}{t':Nat}(I:Inv X pins σ H s)(hH:H l=some (.lst xs))
  (e:s.heap.get? l=some { cls:=.type "list",data:=.seq its.toArray n }) (hf:f its.toArray=its'.toArray) (hv:Vals ys its') (hz:ys.length <= sizeLine) :
  Inv X pins σ (upd H l (.lst ys)) { s with heap:=s.heap.update l (Obj.mapSeq f),toks:=t' }:=by
 have q:=PySem.IsL.update e f;rw [hf] at q;refine I.write (x:=l) (e:=l) (by rw [hH];exact trivial) (.inl rfl) (fun b' u hb hu=>(Heap.get?_update_other s.heap (Obj.mapSeq f) (Ne.symm hb)).trans hu) ⟨_,q⟩ ?_;exact ⟨hz,its',_,hv,q⟩
theorem Inv.lnew{its:List Value}{t':Nat}(I:Inv X pins σ H s)(hv:Vals ys its)(hz:ys.length <= sizeLine) :
  Inv X pins σ (upd H s.heap.objs.size (.lst ys)) { s with heap:=s.heap.push { cls:=.type "list",data:=.seq its.toArray },toks:=t' } :=
 I.laid (fun _ _ q=>Heap.get?_push_of_some _ q) (Nat.le_refl _) ⟨hz,its,0,hv,Heap.get?_push_size _ rfl⟩
theorem Inv.fresh(I:Inv X pins σ H s):H s.heap.objs.size=none:=I.hok.fresh (Nat.le_refl _)
theorem Inv.lstM(I:Inv X pins σ H s)(hH:H l=some (.lst xs)):xs.length <= sizeLine/\∃ (its:List Value) (n:Nat),Vals xs its/\xs.length=its.length/\s.heap.get? l=some { cls:=.type "list",data:=.seq its.toArray n }:=by
 obtain ⟨z,its,n,r,e⟩:=I.hok l _ hH;exact ⟨z,its,n,r,r.length,e⟩
theorem a8S{n:Nat}(h:n <= sizeLine):Builtin.List.listTooLong n=false:=by
 unfold Builtin.List.listTooLong;exact decide_eq_false (by omega)
end
section
variable {X:Cx}
def b1y:V->List V->Hp->VK->Prop:=fun x vs H Q=>∃ l xs y,x = .ref l/\vs=[y]/\H l=some (.lst xs)/\xs.length < sizeLine/\Q .non (upd H l (.lst (xs ++ [y])))
theorem a5u:MtM X "list.append" b1y:=by
 intro pins s σ H x vs v us Q I rx rv h;obtain ⟨l,xs,y,rfl,rfl,hH,hz,q⟩:=h;cases rx;obtain ⟨u,rfl,ru⟩:=rv.one;obtain ⟨z,its,n,r,hl,e⟩:=I.lstM hH;refine call_meets F.slot_list_append ⟨_,e,rfl⟩ F.entry_list_append (F.args_list_append_2 _ _) (PySem.list_append l its.toArray n u (by rw [List.size_toArray];omega)) ⟨e,?_⟩;refine ⟨.non,_,I.lset (its':=its ++ [u]) hH e (by simp) (r.append (.cons ru .nil)) ?_,rfl,q⟩;rw [List.length_append,List.length_singleton];omega
def b2k:V->List V->Hp->VK->Prop:=fun x vs H Q=>∃ l b xs zs,x = .ref l/\vs=[.ref b]/\H l=some (.lst xs)/\H b=some (.lst zs)/\xs.length + zs.length <= sizeLine/\Q .non (upd H l (.lst (xs ++ zs)))
theorem a5l:MtM X "list.extend" b2k:=by
 intro pins s σ H x vs v us Q I rx rv h;obtain ⟨l,b,xs,zs,rfl,rfl,hH,hB,hz,q⟩:=h;cases rx;obtain ⟨u,rfl,ru⟩:=rv.one;cases ru;obtain ⟨z,its,n,r,hl,e⟩:=I.lstM hH;obtain ⟨z2,its2,n2,r2,hl2,e2⟩:=I.lstM hB;have hsz:its.toArray.size + its2.toArray.size <= sizeLine:=by rw [List.size_toArray,List.size_toArray];omega
 have hlong:¬ (!its.toArray.isEmpty && Builtin.List.listTooLong (its.toArray.size + its2.toArray.size))=true:=by
  rw [a8S hsz,Bool.and_false];exact Bool.false_ne_true
 refine call_meets F.slot_list_extend ⟨_,e,rfl⟩ F.entry_list_extend (F.args_list_extend_2 _ _)
  (AutoSeq1.list_extend_list_list_0 l its.toArray n b its2.toArray n2 hlong (by rw [List.size_toArray];omega) (by omega)) ⟨e,e2,?_⟩
 refine ⟨.non,_,I.lset (its':=its ++ its2) hH e (by simp) (r.append r2) ?_,rfl,q⟩;rw [List.length_append];omega
def b9s:V->List V->Hp->VK->Prop:=fun x vs H Q=>∃ l xs y,x = .ref l/\vs=[]/\H l=some (.lst xs)/\xs[xs.length - 1]?=some y/\Q y (upd H l (.lst xs.dropLast))
theorem b4U:MtM X "list.pop" b9s:=by
 intro pins s σ H x vs v us Q I rx rv h;obtain ⟨l,xs,y,rfl,rfl,hH,hy,q⟩:=h;cases rx;have hus:=rv.zero;subst hus;obtain ⟨z,its,n,r,hl,e⟩:=I.lstM hH;obtain ⟨u,hu,ru⟩:=r.get hy
 have hy':its.toArray[its.toArray.size - 1]?=some u:=by
  show its.toArray[its.length - 1]?=some u;rw [<- Array.getElem?_toList,<- hl];exact hu
 refine call_meets F.slot_list_pop ⟨_,e,rfl⟩ F.entry_list_pop (F.args_list_pop_1 _) (MeetsSeq.list_pop_last l its.toArray n u hy' (by rw [List.size_toArray];omega)) ⟨e,?_⟩;refine ⟨y,_,I.lset (its':=its.dropLast) hH e ?_ r.dropLast ?_,ru,q⟩
 ·show its.toArray.eraseIdxIfInBounds (its.toArray.size - 1)=its.dropLast.toArray;rw [List.size_toArray,List.eraseIdxIfInBounds_toArray,a3O]
 ·rw [List.length_dropLast];omega
def b9I:R2:=fun x y H Q=>∃ l b xs zs,x = .ref l/\y = .ref b/\H l=some (.lst xs)/\H b=some (.lst zs)/\xs.length + zs.length <= sizeLine/\∀ p,H p=none->Q (.ref p) (upd H p (.lst (xs ++ zs)))
theorem op_cat:OpR X (binaryOp .Add) b9I:=by
 intro pins s σ H x y v u Q I rx ry h;obtain ⟨l,b,xs,zs,rfl,rfl,hH,hB,hz,q⟩:=h;cases rx;cases ry;obtain ⟨z,its,n,r,hl,e⟩:=I.lstM hH;obtain ⟨z2,its2,n2,r2,hl2,e2⟩:=I.lstM hB;refine PySem.P.add_list e e2 ?_ (by rw [List.size_toArray,List.size_toArray];omega);have ea:its.toArray ++ its2.toArray=(its ++ its2).toArray:=by simp
 rw [ea];exact ⟨.ref _,_,I.lnew (t':=s.toks) (r.append r2) (by rw [List.length_append];omega),rfl,q _ I.fresh⟩
end
section
variable {prog:Program} {w:World} {A:Around} {E:Value->Shared->Prop} {s:Shared}
end
section
variable {X:Cx}
end
end L2
namespace Att
open PySem PySem.W PySem.Calls PyProof.Rows
theorem Y4{P:Params}{h:Heap}:∀ (ns:List Int) (vs:List Value),WellAll P h vs (ns.map WData.int)->IntsAre vs ns:=by
 intro ns
 induction ns with
 |nil =>
  intro vs w;rw [List.map_nil] at w;cases w;exact .nil
 |cons n ns ih =>
  intro vs w;rw [List.map_cons] at w
  cases w with
  |cons a b =>
   cases a;exact .cons _ _ (ih _ b)
theorem a5V{l:OpenLaw}{n:Nat}(hn:l.most=some n){P:Params}{h:Heap}{args:List WData}{vals:List Value}
  (hpre:l.row.toRowW.claim.pre args=true) (hwl:WellAll P h vals args) :
  ∃ a vs ns,vals=[Value.ref a]/\args=[WData.list (ns.map WData.int)]/\h.get? a=some { cls:=.type "list",data:=.seq vs.toArray }/\IntsAre vs ns/\ns.length <= n:=by
 have hsh:WShape.hasAll [] args [.list .int]=true:=(pre_splitW hpre).1;have hc:l.pre.holds [] { args:=args }=true:=(pre_splitW hpre).2;obtain ⟨d,r,rfl,h1,h2⟩:=hasAllW_cons hsh
 obtain rfl:=hasAllW_nil h2
 obtain ⟨xs,rfl,h3⟩:=hasW_list h1;obtain ⟨ns,rfl⟩:=items_int h3
 have hlen:ns.length <= n:=by
  unfold OpenLaw.pre at hc
  have h4:(WTm.not (.lt (.lit (.int (n:Int))) (.len (.arg 0)))).holds [] { args:=[.list (ns.map .int)] }=true:=by
   have h4:=(holds_andW hc).1;rw [hn] at h4;exact h4
  have h5:=condW_of h4 (w_not (w_lt w_lit (w_len_list (w_arg rfl))));rw [List.length_map] at h5;refine Nat.le_of_not_lt fun q=>?_;have q':(n:Int) < ((ns.length:Nat):Int):=by omega
  first
   |(rw [decide_eq_true q'] at h5;exact absurd h5 (by decide))
   |(simp at h5;omega)
 cases hwl with
 |cons w1 w2 =>
  cases w2
  cases w1 with
  |list ho hall=>exact ⟨_,_,ns,rfl,rfl,ho,Y4 ns _ hall,hlen⟩
theorem a5i(l:OpenLaw)(args:List WData):l.row.toRowW.claim.post args (.bool true) args=true :=
 postW_of (r:=l.row.toRowW) (X:=(true == true))
  (show WShape.has [] (.bool true) .bool=true by first | rfl | decide | simp [WShape.has,WShape.arms,WShape.armsAll])
  (show (WTm.eq .res (.lit (.bool true))).value [] { args:=args,res:=some (.bool true),after:=args }=some (.bool (true == true)) from w_eq_bool (w_res rfl) w_lit) rfl
section
variable {prog:Program} {w:World} {A:Around} {E:Value->Shared->Prop} {s:Shared} {K:Frag}
end
end Att
namespace L2
open PySem PySem.Spec PyProof.Rows
theorem a1n:∀ {vs:List Value} {ns:List Int},IntsAre vs ns->Vals (ns.map V.int) vs
 |_,_,.nil=>.nil
 |_,_,.cons n t h=>.cons ⟨t,rfl⟩ (a1n h)
def b7Y(H:Hp):Prop:=∀ b,H b=none\/∃ o xs,H b=some (.frz o (.lst xs))
theorem law_call{P:Program}{w:World}{K:PySem.W.Frag}{mg mb:Str->Option Value}{CX:CXT}{k:Nat}{fa a:Addr}{fd:FuncData}{x:Str}{sp:Sp}{s₁:Shared}{vs:List Value}{ns:List Int}
  (KX:K.In s₁.heap) (hns:s₁.heap.Ns mainGlobals mg) (hb:s₁.heap.Ns builtinsNs mb) (hbb:∀ x:Str,x ≠ "__name__"->mb x=bootBuiltins x) (hlim:s₁.heap.NoLimit) (hg:s₁.gens = #[])
  (ha:s₁.heap.get? a=some { cls:=.type "list",data:=.seq vs.toArray }) (hi:IntsAre vs ns) (hl:ns.length <= sizeLine) (hr:Room k callerA)
  (F:∀ base:Heap,K.In base->base.Ns mainGlobals mg->u7 P w K mg base CX k fa fd [x] sp) (hbind:∀ (s:Shared) (u:Value),BindsTo s fd ⟨[u],[]⟩ [(x,u)])
  (hsp:∀ H:Hp,b7Y H->SqL K H a (ns.map V.int)->sp [.ref a] H (fun v _=>v = .bl true) fun _ _ _=>False)
  (hCX:∀ H e s',CX [] H s₁ (fun _ _ _=>False) e s'->False) :
  codeAny (model P w) callerA (.call (.ref fa) ⟨[.ref a],[]⟩) (fun r s'=>r = .ok (.ret (.bool true))/\OldK s₁.heap s'.heap/\s'.os=s₁.os/\AllBare s'.gens) s₁:=by
 have rv:=a1n hi;have lenV:=hi.length
 have core:∀ H:Hp,b7Y H->SqL K H a (ns.map V.int)->HOk P w H s₁.heap->(∀ b,H b ≠ none->b=a)->(H a ≠ none->K.lookup a=none) ->
   codeAny (model P w) callerA (.call (.ref fa) ⟨[.ref a],[]⟩) (fun r s'=>r = .ok (.ret (.bool true))/\OldK s₁.heap s'.heap/\s'.os=s₁.os/\AllBare s'.gens) s₁:=by
  intro H hO hS hok hA hK;have base_of:∀ {b:Addr} {o:Obj},s₁.heap.get? b=some o->H b=none->(a1R s₁.heap H).get? b=some o:=fun e n=>a7D e n
  have noA:∀ {b:Addr} {o:Obj} {es:Array DictEntry} {ep:Nat},s₁.heap.get? b=some o->o.data = .dict es ep->H b=none:=fun {b o es ep} e d=>by
   cases q:H b with
   |none=>rfl
   |some u =>
    have e':b=a:=hA b (by rw [q];simp);subst e';rw [ha] at e;cases e;have d':Data.seq vs.toArray _=Data.dict es ep:=d
    cases d'
  have nsK:∀ {b:Addr} {m:Str->Option Value},s₁.heap.Ns b m->(a1R s₁.heap H).Ns b m:=fun {b m} ⟨o,es,ep,e,d,r⟩=>⟨o,es,ep,base_of e (noA e d),d,r⟩
  have hKb:K.In (a1R s₁.heap H):=fun b o e=>base_of (KX b o e) (by
   cases q:H b with
   |none=>rfl
   |some u =>
    have e':b=a:=hA b (by rw [q];simp);subst e';rw [hK (by rw [q];simp)] at e;cases e)
  have hM:Mod K mg (a1R s₁.heap H):=⟨hKb,nsK hns,⟨mb,nsK hb,hbb⟩,let ⟨mc,h1,h2⟩:=hlim;⟨mc,nsK h1,h2⟩⟩
  have e0:Env0 P w K mg (a1R s₁.heap H) callerA [] s₁ H:=⟨rfl,hM,fun b o e=>b1g e,Nat.le_of_eq (a5T _ _),trivial,fun b hb=>absurd (show b ∈ ([]:List Addr) from hb) (by simp),hok,.of_eq hg⟩
  refine codeAny_mono ((F _ hKb (nsK hns)).run callerA [] s₁ H ⟨[.ref a],[]⟩ [.ref a] [.ref a] _ _ hr e0 (hbind s₁ (.ref a)) (.cons rfl .nil) (hsp H hO hS)) fun r s' h=>?_
  cases r with
  |error e=>exact (hCX H e s' h).elim
  |ok fl =>
   cases fl with
   |next=>exact False.elim h
   |brk=>exact False.elim h
   |cont=>exact False.elim h
   |ret u =>
    obtain ⟨v,H',os,bare,un,hok',r',q⟩:=h;have q':v = .bl true:=q;subst q'
    obtain rfl:u=Value.bool true:=r'
    refine ⟨rfl,OldK.of_keep fun b o e=>?_,os,bare⟩
    cases q:H b with
    |none=>exact un.keep b o e q (by intro z;exact absurd (show b ∈ ([]:List Addr) from z) (by simp)) (by simp)
    |some u =>
     rcases hO b with z | ⟨ob,xs,z⟩
     ·rw [q] at z;cases z
     ·have z2:=un.frzs b ob _ z;obtain ⟨e1,_⟩:=hok b _ z;obtain ⟨e2,_⟩:=hok' b _ z2;rw [e] at e1;cases e1;exact e2
 cases hk:K.lookup a with
 |some o =>
  have e:=KX a o hk;rw [ha] at e;cases e;refine core (fun _=>none) (fun _=>.inl rfl) (.inr ⟨_,vs.toArray,_,hk,rfl,rfl,rfl,by rw [List.size_toArray,lenV];exact hl,by simpa using rv⟩) (fun b u z=>by have z':(none:Option HO)=some u:=z;cases z') (fun b z=>absurd rfl z) fun z=>absurd rfl z
 |none =>
  refine core (fun b=>if b=a then some (.frz { cls:=.type "list",data:=.seq vs.toArray } (.lst (ns.map V.int))) else none) (fun b=>?_) (.inl (.inr ⟨{ cls:=.type "list",data:=.seq vs.toArray },if_pos rfl⟩)) (fun b u z=>?_) (fun b z=>?_) fun _=>hk
  ·by_cases hb:b=a
   ·exact .inr ⟨_,_,if_pos hb⟩
   ·exact .inl (if_neg hb)
  ·by_cases hb:b=a
   ·have z':=(if_pos hb).symm.trans z
    cases z'
    subst hb;exact ⟨ha,by rw [List.length_map];exact hl,vs,_,rv,ha⟩
   ·have z':=(if_neg hb).symm.trans z
    cases z'
  ·by_cases hb:b=a
   ·exact hb
   ·exact absurd (if_neg hb) z
end L2
namespace L2
open PySem PySem.Spec PyProof.Rows
end L2
namespace L2
open PySem PySem.Spec PyProof.Rows
def F7(s:Stmt):Arguments:=match s with
 |.FunctionDef _ a _ _ _ _ _ _ _ _=>a
 |_=>{ posonlyargs:=[],args:=[],vararg:=none,kwonlyargs:=[],kw_defaults:=[],kwarg:=none,defaults:=[] }
def A5(s:Stmt):List Stmt:=match s with
 |.FunctionDef _ _ b _ _ _ _ _ _ _=>b
 |_=>[]
def d9(s:Stmt):Scope:=match s with
 |.FunctionDef _ _ _ _ _ _ sc _ _ _=>sc
 |_=>{ kind:=.function,names:=[],isGenerator:=false,isCoroutine:=false }
abbrev CX0:CXT:=fun _ _ _ _ _ _=>False
abbrev E0:XK:=fun _ _ _=>False
theorem b7Q{X:Cx}:a1T CX0 X E0:=fun _ _ _ _ _ _ _ h=>h.elim
structure Fun(K:PySem.W.Frag)(x qual:Str)(st:Stmt)(f:Addr)(fd:FuncData):Prop where
 ex:∃ (oc:Value) (od:Option Addr) (dV kV doc pm:Value) (an:Option Addr) (cdv ct:Value) (osl:Array (Option Value)),
  fd=PySem.W.fnOf x qual (F7 st) (A5 st) (d9 st) dV kV doc pm an cdv ct/\K.lookup f=some ⟨oc,od,.func fd,osl⟩/\PySem.W.codeIn K cdv qual=true
 kp:PySem.W.keepIn K (.ref f)=true
section
variable {P:Program} {w:World} {K:PySem.W.Frag} {mg:Str->Option Value} {base:Heap}
theorem Fun.ok{x qual:Str}{st:Stmt}{f:Addr}{fd:FuncData}{N ps:List Str}{k:Nat}{sp:Sp}(F:Fun K x qual st f fd)(S:j6 N ps (d9 st))(len:∀ vs H Q E,sp vs H Q E->vs.length=ps.length)
  (hbody:∀ (cdv:Value) (A:Around) (outer:List Env) (s:Shared) (H:Hp) (vs:List V) (Q:VK) (E:XK),Room k (A.deeper (envOfC qual (d9 st) s.heap.objs.size f cdv))->sp vs H Q E ->
   ∃ t,PSs (Z2 CX0 P w K mg base N qual (d9 st) f cdv A outer s H E).nox (A5 st) t/\t { nx:=fun _ H'=>Q .non H',rt:=Q } (start N vs) H):u7 P w K mg base CX0 (k + 1) f fd ps sp:=by
 obtain ⟨oc,od,dV,kV,doc,pm,an,cdv,ct,osl,rfl,lk,hcd⟩:=F.ex;refine b2X lk hcd S len fun A outer s H vs Q E hr hsp=>?_;obtain ⟨t,h,q⟩:=hbody cdv A outer s H vs Q E hr hsp;exact ⟨t,h.nox,q⟩
theorem a1y{x qual:Str}{st:Stmt}{f:Addr}{oc:Value}{od an:Option Addr}{osl:Array (Option Value)}{dV kV doc pm cdv ct:Value}(l:K.lookup f=some ⟨oc,od,.func (PySem.W.fnOf x qual (F7 st) (A5 st) (d9 st) dV kV doc pm an cdv ct),osl⟩)
  (c:PySem.W.codeIn K cdv qual=true) (k:PySem.W.keepIn K (.ref f)=true):Fun K x qual st f (PySem.W.fnOf x qual (F7 st) (A5 st) (d9 st) dV kV doc pm an cdv ct):=⟨⟨oc,od,dV,kV,doc,pm,an,cdv,ct,osl,rfl,l,c⟩,k⟩
end
section
variable {X:Cx}
theorem pv(i:Nat){x:Str}{pos:Pos}(hN:X.N[i]?=some x:=by rfl)(hv:Vis X.env.scope x:=by trivial)(hd:(x == ("__debug__":Str))=false:=by decide)
  (hcd:(x == ("__classdict__":Str))=false:=by decide):PE X (.Name x pos) (b3y i):=a6j hN hv hd hcd
end
theorem T7{A B:Prop}(h:B):if false=true then A else B:=by
 rw [if_neg Bool.false_ne_true];exact h
theorem Y9{A B:Prop}(h:A):if true=true then A else B:=by
 rw [if_pos rfl];exact h
def Same(H H':Hp):Prop:=∀ b o,H b=some o->H' b=some o
theorem Same.seq{K:PySem.W.Frag}{H H':Hp}{a:Addr}{xs:List V}(e:Same H H')(h:SqL K H a xs):SqL K H' a xs:=by
 rcases h with (h | ⟨o,h⟩) | h
 ·exact .inl (.inl (e _ _ h))
 ·exact .inl (.inr ⟨o,e _ _ h⟩)
 ·exact .inr h
end L2
namespace L2
open PySem PySem.Spec PyProof.Rows
theorem K2{env:Env}:∀ {names:List (Str×NameKind)} {x:Str},
  (names.map fun (n,k)=>if (k == NameKind.free && env.scope.kind == .function && env.kindOf n == some .cell) then (n,NameKind.cell) else (n,k)).lookup x
   = (names.lookup x).map fun k=>if (k == NameKind.free && env.scope.kind == .function && env.kindOf x == some .cell) then NameKind.cell else k
 |[],_=>rfl
 |(n,k) :: r,x=>by
  have ih:=@K2 env r x;show List.lookup x ((if (k == NameKind.free && env.scope.kind == .function && env.kindOf n == some .cell)=true then (n,NameKind.cell) else (n,k)) :: _)=_
  cases hx:x == n with
  |true =>
   have e:x=n:=beq_iff_eq.mp hx;subst e
   by_cases hc:(k == NameKind.free && env.scope.kind == .function && env.kindOf x == some .cell)=true
   ·rw [if_pos hc];simp only [List.lookup_cons,hx,Option.map_some];rw [if_pos hc]
   ·rw [if_neg hc];simp only [List.lookup_cons,hx,Option.map_some];rw [if_neg hc]
  |false =>
   by_cases hc:(k == NameKind.free && env.scope.kind == .function && env.kindOf n == some .cell)=true
   ·rw [if_pos hc];simp only [List.lookup_cons,hx];exact ih
   ·rw [if_neg hc];simp only [List.lookup_cons,hx];exact ih
theorem a1M{scope:Scope}{env:Env}{x:Str}(h:scope.names.lookup x=some .free):(relabel scope env).names.lookup x=some .cell\/(relabel scope env).names.lookup x=some .free:=by
 have e:(relabel scope env).names.lookup x=_:=K2 (env:=env) (names:=scope.names) (x:=x);rw [e,h,Option.map_some];split
 ·exact .inl rfl
 ·exact .inr rfl
theorem a2d{scope:Scope}{env:Env}{x:Str}(h:(relabel scope env).names.lookup x=some .cell\/(relabel scope env).names.lookup x=some .free):scope.names.lookup x=some .cell\/scope.names.lookup x=some .free:=by
 have e:(relabel scope env).names.lookup x=_:=K2 (env:=env) (names:=scope.names) (x:=x);rw [e] at h
 cases q:scope.names.lookup x with
 |none=>rw [q] at h;simp at h
 |some k =>
  rw [q,Option.map_some] at h
  by_cases hc:(k == NameKind.free && env.scope.kind == .function && env.kindOf x == some .cell)=true
  ·have:(k == NameKind.free)=true:=by
    rw [Bool.and_eq_true,Bool.and_eq_true] at hc;exact hc.1.1
   have:k = .free:=by simpa using this
   subst this;exact .inr rfl
  ·rw [if_neg hc] at h
   rcases h with h | h
   ·exact .inl h
   ·exact .inr h
def C6(cells:List (Str×Addr)):List (Str×NameKind)->List (Str×Addr)->List (Str×Addr)
 |[],acc=>acc
 |(n,k) :: r,acc=>if k == .free then C6 cells r ((n,(cells.lookup n).getD 0) :: acc) else C6 cells r acc
theorem S0{scope:Scope}{env:Env}(h:∀ n,(n,NameKind.free) ∈ scope.names->(env.cells.lookup n).isSome=true):closureFor scope env=pure (C6 env.cells scope.names []):=by
 have all:∀ (names:List (Str×NameKind)) (acc:List (Str×Addr)),(∀ n,(n,NameKind.free) ∈ names->(env.cells.lookup n).isSome=true) ->
   (forIn names acc fun x cs=>(if x.2 == NameKind.free then do let c <- cellOf env x.1;pure (ForInStep.yield ((x.1,c) :: cs)) else pure (ForInStep.yield cs):Sem (ForInStep (List (Str×Addr)))))=pure (C6 env.cells names acc):=by
  intro names
  induction names with
  |nil=>intro acc _;rfl
  |cons p r ih =>
   intro acc hp;obtain ⟨n,k⟩:=p;rw [List.forIn_cons]
   by_cases hk:(k == NameKind.free)=true
   ·have ek:k = .free:=by simpa using hk
    obtain ⟨c,hc⟩:=Option.isSome_iff_exists.mp (hp n (by rw [ek];exact List.mem_cons_self));have e1:cellOf env n=pure c:=by unfold cellOf;rw [hc]
    dsimp only;rw [if_pos hk,e1]
    have e2:C6 env.cells ((n,k) :: r) acc=C6 env.cells r ((n,c) :: acc):=by
     show (if k == .free then _ else _)=_;rw [if_pos hk,hc];rfl
    rw [e2,<- ih ((n,c) :: acc) fun m hm=>hp m (List.mem_cons_of_mem _ hm)];rfl
   ·dsimp only;rw [if_neg hk]
    have e2:C6 env.cells ((n,k) :: r) acc=C6 env.cells r acc:=by
     show (if k == .free then _ else _)=_;rw [if_neg hk]
    rw [e2,<- ih acc fun m hm=>hp m (List.mem_cons_of_mem _ hm)];rfl
 have q:=all scope.names [] h;unfold closureFor;show ((forIn scope.names [] fun x cs=>(if x.2 == NameKind.free then do let c <- cellOf env x.1;pure (ForInStep.yield ((x.1,c) :: cs)) else pure (ForInStep.yield cs):Sem (ForInStep (List (Str×Addr))))) >>= fun cs=>pure cs)=_;rw [q];rfl
theorem X0{cells:List (Str×Addr)}:∀ {names:List (Str×NameKind)} {acc:List (Str×Addr)} {n:Str} {c:Addr},(n,c) ∈ C6 cells names acc->(n,c) ∈ acc\/((n,NameKind.free) ∈ names/\(cells.lookup n).getD 0=c)
 |[],_,_,_,h=>.inl h
 |(m,k) :: r,acc,n,c,h=>by
  have h:(n,c) ∈ (if k == .free then C6 cells r ((m,(cells.lookup m).getD 0) :: acc) else C6 cells r acc):=h
  by_cases hk:(k == NameKind.free)=true
  ·rw [if_pos hk] at h;have ek:k = .free:=by simpa using hk
   rcases X0 h with q | ⟨q1,q2⟩
   ·rcases List.mem_cons.mp q with q | q
    ·cases q;exact .inr ⟨by rw [ek];exact List.mem_cons_self,rfl⟩
    ·exact .inl q
   ·exact .inr ⟨List.mem_cons_of_mem _ q1,q2⟩
  ·rw [if_neg hk] at h
   rcases X0 h with q | ⟨q1,q2⟩
   ·exact .inl q
   ·exact .inr ⟨List.mem_cons_of_mem _ q1,q2⟩
theorem W6{cells:List (Str×Addr)}:∀ {names:List (Str×NameKind)} {acc:List (Str×Addr)} {n:Str},((n,NameKind.free) ∈ names\/∃ c,(n,c) ∈ acc)->∃ c,(n,c) ∈ C6 cells names acc
 |[],_,_,h=>h.elim (fun z=>nomatch z) id
 |(m,k) :: r,acc,n,h=>by
  show ∃ c,(n,c) ∈ (if k == .free then C6 cells r ((m,(cells.lookup m).getD 0) :: acc) else C6 cells r acc)
  by_cases hk:(k == NameKind.free)=true
  ·rw [if_pos hk];refine W6 ?_
   rcases h with h | ⟨c,h⟩
   ·rcases List.mem_cons.mp h with h | h
    ·cases h;exact .inr ⟨_,List.mem_cons_self⟩
    ·exact .inl h
   ·exact .inr ⟨c,List.mem_cons_of_mem _ h⟩
  ·rw [if_neg hk];refine W6 ?_
   rcases h with h | ⟨c,h⟩
   ·rcases List.mem_cons.mp h with h | h
    ·cases h;exact absurd rfl hk
    ·exact .inl h
   ·exact .inr ⟨c,h⟩
theorem L5{α:Type}{n:Str}{c:α}:∀ {l:List (Str×α)},(n,c) ∈ l->(∀ d,(n,d) ∈ l->d=c)->l.lookup n=some c
 |[],h,_=>nomatch h
 |(m,d) :: r,h,all=>by
  rw [List.lookup_cons]
  cases hb:n == m with
  |true =>
   have e:n=m:=beq_iff_eq.mp hb;subst e;rw [all d List.mem_cons_self]
  |false =>
   rcases List.mem_cons.mp h with q | q
   ·cases q;simp at hb
   ·exact L5 q fun d' hd=>all d' (List.mem_cons_of_mem _ hd)
theorem w9:∀ (names:List (Str×NameKind)) (n:Nat) (acc:List (Str×Addr)),cellsFrom n names acc=cellsFrom n names [] ++ acc
 |[],_,_=>rfl
 |(x,k) :: r,n,acc=>by
  unfold cellsFrom;split
  ·rw [w9 r (n + 1) ((x,n) :: acc),w9 r (n + 1) [(x,n)],List.append_assoc];rfl
  ·exact w9 r n acc
theorem K0:∀ {names:List (Str×NameKind)} {n:Nat} {x:Str} {c:Addr},(x,c) ∈ cellsFrom n names []->(x,NameKind.cell) ∈ names
 |[],_,_,_,h=>nomatch h
 |(y,k) :: r,n,x,c,h=>by
  unfold cellsFrom at h
  split at h
  ·rename_i hk;have ek:k = .cell:=by simpa using hk
   rw [w9] at h
   rcases List.mem_append.mp h with q | q
   ·exact List.mem_cons_of_mem _ (K0 q)
   ·cases List.mem_singleton.mp q
    rw [ek];exact List.mem_cons_self
  ·exact List.mem_cons_of_mem _ (K0 h)
theorem W0{α:Type}{n:Str}{c d:α}:∀ {l:List (Str×α)},(l.map (·.1)).Nodup->l.lookup n=some c->(n,d) ∈ l->d=c
 |[],_,_,h=>nomatch h
 |(m,e) :: r,hn,hl,hm=>by
  have hn:(m :: r.map (·.1)).Nodup:=hn;obtain ⟨h1,h2⟩:=List.nodup_cons.mp hn;rw [List.lookup_cons] at hl
  cases hb:n == m with
  |true =>
   rw [hb] at hl;have e1:n=m:=beq_iff_eq.mp hb;subst e1
   rcases List.mem_cons.mp hm with q | q
   ·cases q;cases hl;rfl
   ·exact absurd (List.mem_map.mpr ⟨(n,d),q,rfl⟩) h1
  |false =>
   rw [hb] at hl
   rcases List.mem_cons.mp hm with q | q
   ·cases q;simp at hb
   ·exact W0 h2 hl q
def v6(X:Cx)(N':List Str)(scope:Scope)(s:Shared)(H:Hp)(fp:List Addr):Cx :=
 { X with N:=N',s₀:=s,H₀:=H,env:=compEnvC scope (cellsFrom (s.heap.objs.size + 1) scope.names (C6 X.env.cells scope.names [])) s.heap.objs.size X.env,outer:=X.stack,ex:=fp,fn:=fun x=>scope.names.lookup x == some .cell,pn:=[],xe:=fun _ _=>False }
def P4(js:List (Option Nat))(σ:St):St:=js.map fun j=>match j with
 |some j=>(σ[j]?).getD none
 |none=>none
def frB(X:Cx)(scope:Scope):Bool:=scope.names.all fun p=>p.2 != .free || X.env.kindOf p.1 == some .cell || X.env.kindOf p.1 == some .free
def atB(X:Cx)(N':List Str)(js:List (Option Nat))(scope:Scope):Bool:=(js.zip N').all fun p=>match p.1 with
 |none=>true
 |some j=>X.N[j]? == some p.2 && scope.names.lookup p.2 == some .free
structure CompOk(X:Cx)(N':List Str)(js:List (Option Nat))(scope:Scope):Prop where
 kind:scope.kind = .function
 nd:(scope.names.map (·.1)).Nodup
 frb:frB X scope=true
 len:js.length=N'.length
 atb:atB X N' js scope=true
theorem CompOk.fr{X:Cx}{N':List Str}{js:List (Option Nat)}{scope:Scope}(C:CompOk X N' js scope):∀ n,(n,NameKind.free) ∈ scope.names->X.env.kindOf n=some .cell\/X.env.kindOf n=some .free:=fun n hn=>by
 have h:=List.all_eq_true.mp C.frb (n,.free) hn;simp only [Bool.or_eq_true,bne_iff_ne,ne_eq,not_true_eq_false,false_or,beq_iff_eq] at h;exact h
theorem CompOk.at_{X:Cx}{N':List Str}{js:List (Option Nat)}{scope:Scope}(C:CompOk X N' js scope):∀ (i j:Nat),js[i]?=some (some j)->∃ x,N'[i]?=some x/\X.N[j]?=some x/\scope.names.lookup x=some .free:=fun i j hj=>by
 have hi:i < js.length:=(List.getElem?_eq_some_iff.mp hj).1;have hi':i < N'.length:=by rw [<- C.len];exact hi
 have hz:(js.zip N')[i]?=some (some j,N'[i]):=by
  rw [List.getElem?_zip_eq_some];exact ⟨hj,by simp [hi']⟩
 have h:=List.all_eq_true.mp C.atb _ (List.mem_of_getElem? hz);simp only [Bool.and_eq_true,beq_iff_eq] at h;exact ⟨N'[i],by simp [hi'],h.1,h.2⟩
section
variable {X:Cx} {pins:List (Addr×Obj)} {σ:St} {H:Hp} {s:Shared} {N':List Str} {js:List (Option Nat)} {scope:Scope} {fp:List Addr}
theorem a3E(I:Inv X pins σ H s)(C:CompOk X N' js scope)(hf:∀ b ∈ fp,V9 X pins H b)(ho:∀ b ∈ fp,∃ o,s.heap.get? b=some o) :
  Inv (v6 X N' scope s H fp) [] (P4 js σ) H { s with heap:=pushCells (s.heap.push { cls:=.type "dict",data:=.dict #[] }) scope.names }:=by
 have keep:∀ b o,s.heap.get? b=some o->(pushCells (s.heap.push { cls:=.type "dict",data:=.dict #[] }) scope.names).get? b=some o:=fun b o e=>pushCells_keeps _ _ b o (Heap.get?_push_of_some _ e);have new:=cellsFrom_ok scope.names (s.heap.push { cls:=.type "dict",data:=.dict #[] }) (s.heap.objs.size + 1) [] ⟨fun _ _ hm=>(nomatch hm),List.Pairwise.nil⟩ (by rw [Heap.size_push];exact Nat.le_refl _);rw [Heap.size_push] at new
 have old:∀ n c,(n,c) ∈ C6 X.env.cells scope.names []->X.env.cells.lookup n=some c:=fun n c h=>by
  rcases X0 h with q | ⟨q1,q2⟩
  ·exact nomatch q
  ·obtain ⟨d,hd⟩:=I.ok.has n (C.fr n q1);rw [hd] at q2;rw [hd];exact congrArg some q2
 have oldlt:∀ n c,X.env.cells.lookup n=some c->c < s.heap.objs.size:=fun n c h=>by
  obtain ⟨v,q⟩:=I.cell n c h;exact q.lt
 have mem:∀ n c,(v6 X N' scope s H fp).env.cells.lookup n=some c->(n,c) ∈ cellsFrom (s.heap.objs.size + 1) scope.names []\/X.env.cells.lookup n=some c:=fun n c h=>by
  have h:(cellsFrom (s.heap.objs.size + 1) scope.names (C6 X.env.cells scope.names [])).lookup n=some c:=h;rw [w9] at h
  rcases List.mem_append.mp (PySem.mem_of_lookup h) with q | q
  ·exact .inl q
  ·exact .inr (old n c q)
 have lt:∀ b ∈ fp,b < s.heap.objs.size:=fun b hb=>let ⟨_,e⟩:=ho b hb;Heap.lt_size e
 have fre:∀ x c,scope.names.lookup x=some .free->X.env.cells.lookup x=some c->(v6 X N' scope s H fp).env.cells.lookup x=some c:=fun x c hx hc=>by
  show (cellsFrom (s.heap.objs.size + 1) scope.names (C6 X.env.cells scope.names [])).lookup x=some c;have hm:=PySem.mem_of_lookup hx;obtain ⟨d,hd⟩:=W6 (cells:=X.env.cells) (acc:=[]) (.inl hm);have ed:∀ d',(x,d') ∈ C6 X.env.cells scope.names []->d'=c:=fun d' h'=>Option.some.inj ((old x d' h').symm.trans hc);refine L5 ?_ fun d' h'=>?_
  ·rw [w9,<- ed d hd];exact List.mem_append_right _ hd
  ·rw [w9] at h'
   rcases List.mem_append.mp h' with q | q
   ·exact absurd (W0 C.nd hx (K0 q)) (by decide)
   ·exact ed d' q
 refine ⟨⟨I.ok.mod,C.kind,I.ok.glob,I.ok.blt,Nat.le_refl _,fun x y c h1 h2=>?_,fun x hx=>?_,fun x c hx h=>?_,I.ok.hd,I.ok.frames,.inl rfl,fun b hb=>⟨Nat.ne_of_lt (lt b hb),fun x c h z=>?_⟩,fun b o e=>I.bs b o e,Nat.le_trans I.ok.bsz I.sz,fun b o e hb=>?_,fun b hb z=>?_,I.stack,I.stkFree⟩,
  rfl,I.bare,Un.kept keep,⟨_,(Heap.Ns.new s.heap (.type "dict")).keeps (pushCells_keeps _ _),fun i x v h1 h2 h3=>?_⟩,fun x c h=>?_,I.hok.fresh (Nat.le_refl _),fun x c h=>?_,fun p hp=>absurd (show p ∈ ([]:List (Addr×Obj)) from hp) (by simp),I.hok.kept keep,?_⟩
 ·rcases mem x c h1 with p1 | p1 <;> rcases mem y c h2 with p2 | p2
  ·exact name_of_addr new.apart p1 p2
  ·exact absurd (Nat.lt_of_lt_of_le (oldlt y c p2) (Nat.le_trans (Nat.le_succ _) (new.empty x c p1).2)) (Nat.lt_irrefl _)
  ·exact absurd (Nat.lt_of_lt_of_le (oldlt x c p1) (Nat.le_trans (Nat.le_succ _) (new.empty y c p2).2)) (Nat.lt_irrefl _)
  ·exact I.ok.inj x y c p1 p2
 ·rcases a2d (scope:=scope) (env:=X.env) hx with q | q
  ·exact Option.isSome_iff_exists.mp (PySem.W.cellsFrom_some scope.names _ _ (.inl q))
  ·obtain ⟨c,hc⟩:=I.ok.has x (C.fr x (PySem.mem_of_lookup q));exact ⟨c,fre x c q hc⟩
 ·have hx:scope.names.lookup x=some .cell:=by simpa [v6] using hx
  rcases mem x c h with q | q
  ·exact Nat.le_trans (Nat.le_succ _) (new.empty x c q).2
  ·
   have e:(cellsFrom (s.heap.objs.size + 1) scope.names (C6 X.env.cells scope.names [])).lookup x=some c:=h;rw [w9,List.lookup_append] at e;obtain ⟨d,hd⟩:=Option.isSome_iff_exists.mp (PySem.W.cellsFrom_some scope.names (s.heap.objs.size + 1) [] (.inl hx));rw [hd] at e;cases e;exact Nat.le_trans (Nat.le_succ _) (new.empty x _ (PySem.mem_of_lookup hd)).2
 ·rcases mem x c h with q | q
  ·have:=(new.empty x c q).2
   rw [z] at this;exact absurd (Nat.lt_of_lt_of_le (lt b hb) (Nat.le_trans (Nat.le_succ _) this)) (Nat.lt_irrefl _)
  ·exact (hf b hb).2.2.2.2.1 x c q z
 ·obtain ⟨_,_,_,h1,_⟩:=hf b hb
  rcases h1 with h1 | h1
  ·exact I.ok.noex b o e h1
  ·exact absurd (Nat.lt_of_lt_of_le (Heap.lt_size (I.ok.bs b o e).1) h1) (Nat.lt_irrefl _)
 ·obtain ⟨_,h1,h2,_⟩:=hf b hb;exact (List.mem_cons.mp (I.stkSub b z)).elim h1 h2
 ·
  obtain ⟨j,hj,hv⟩:∃ j,js[i]?=some (some j)/\(σ[j]?).getD none=some v:=by
   have h2:(js.map fun j=>match j with | some j=>(σ[j]?).getD none | none=>none)[i]?=some (some v):=h2;rw [List.getElem?_map] at h2
   cases e:js[i]? with
   |none=>rw [e] at h2;cases h2
   |some o =>
    rw [e] at h2
    cases o with
    |none=>cases h2
    |some j=>exact ⟨j,rfl,Option.some.inj h2⟩
  obtain ⟨y,e1,e2,e3⟩:=C.at_ i j hj;have exy:y=x:=Option.some.inj (e1.symm.trans (show N'[i]?=some x from h1));rw [exy] at e2 e3
  have hs:σ[j]?=some (some v):=by
   cases e:σ[j]? with
   |none=>rw [e] at hv;cases hv
   |some o=>rw [e] at hv;exact congrArg some hv
  have kx:=C.fr x (PySem.mem_of_lookup e3);obtain ⟨m,hn,hl⟩:=I.loc;obtain ⟨u,r,l⟩:=hl j x v e2 hs (kx.elim (fun z=>.inr (.inl z)) fun z=>.inr (.inr z));refine ⟨u,r,.inr ⟨a1M e3,?_⟩⟩
  rcases l with ⟨k,_⟩ | ⟨_,c,hc,hcell⟩
  ·rcases kx with z | z
   ·rw [z] at k;cases k
   ·rw [z] at k;cases k
  ·exact ⟨c,fre x c e3 hc,hcell.keeps keep⟩
 ·rcases mem x c h with q | q
  ·exact ⟨none,(new.empty x c q).1⟩
  ·obtain ⟨v,z⟩:=I.cell x c q;exact ⟨v,z.keeps keep⟩
 ·rcases mem x c h with q | q
  ·exact I.hok.fresh (Nat.le_trans (Nat.le_succ _) (new.empty x c q).2)
  ·exact I.freeC x c q
 ·show (P4 js σ).length=N'.length;unfold P4;rw [List.length_map,C.len]
theorem a7o{M:Model}{A:Around}{E:Value->Shared->Prop}{env:Env}{cl:List (Str×Addr)}{Q:Env->Shared->Prop}
  (h:Q (newEnv scope s.heap.objs.size env.globals (cellsFrom (s.heap.objs.size + 1) scope.names cl) env.qual none .none (some env) builtinsNs) { s with heap:=pushCells (s.heap.push { cls:=.type "dict",data:=.dict #[] }) scope.names }) :
  wpAny M A (newFunctionEnv scope env.globals cl [] env.qual none .none (some env)) Q E s:=by
 simp only [newFunctionEnv,Option.isSome_some,if_true];refine wpAny_bind (wpAny_alloc ?_);refine wpAny_bind (wpAny_layCells _ (fun name kind cells=>by cases hkc:kind == NameKind.cell <;> simp [hkc]) _ _ _ _ ?_);rw [show ({ s with heap:=s.heap.push { cls:=.type "dict",data:=.dict #[] } }:Shared).heap.objs.size=s.heap.objs.size + 1 from Heap.size_push ..];simp only [List.forIn_nil];exact wpAny_bind (wpAny_pure (wpAny_pure h))
def PF(X:Cx)(ifs:List Expr)(t:TT):Prop :=
 ∀ (pins:List (Addr×Obj)) (s:Shared) (σ:St) (H:Hp) (Q:Bool->Hp->Prop),Inv X pins σ H s->t σ H Q ->
  wpAny (model X.prog X.w) X.A (forIn ifs true fun c r=>if r=true then do let ok <- isTrue c X.env (eval c X.env);pure (ForInStep.yield ok) else pure (ForInStep.yield r)) (TP X pins σ Q) X.xe s
def b7e:TT:=fun _ H Q=>Q true H
theorem b5q:PF X [] b7e:=fun _ _ _ H _ I h=>wpAny_tests_nil ⟨H,I,h⟩
theorem b4m{c:Expr}{t:TT}(h:PT X c t):PF X [c] t:=fun pins s σ H Q I q=>wpAny_tests_one (h pins s σ H Q I q)
theorem a1v{prog:Program}{w:World}{A:Around}{R:Result->Shared->Prop}{s:Shared}{elt target iter:Expr}{ifs:List Expr}{scope:Scope}{pos:Pos}{it acc:Value}{env:Env}(I:Nat->Shared->Prop)
  (turn:∀ n s,I n s->wpAny (model prog w) A (pyNext it) (fun r s₁=>match r with
   |none=>R (.ok .next) s₁
   |some v=>wpAny (model prog w) A (letOwnedTupleGo target it v) (fun _ s₀=>wpAny (model prog w) A (assign target env v) (fun _ s₂ =>
     wpAny (model prog w) A (forIn ifs true fun c r=>if r=true then do let ok <- isTrue c env (eval c env);pure (ForInStep.yield ok) else pure (ForInStep.yield r)) (fun ok s₃ =>
      if ok=true then wpAny (model prog w) A (eval elt env) (fun x s₄ =>
       wpAny (model prog w) A (call (.builtin "list.append") [acc,x]) (fun _ s₅=>∃ m,m < n/\I m s₅) (notedBy (model prog w) A env fun e s'=>R (.error e) s') s₄) (notedBy (model prog w) A env fun e s'=>R (.error e) s') s₃
      else ∃ m,m < n/\I m s₃) (notedBy (model prog w) A env fun e s'=>R (.error e) s') s₂) (notedBy (model prog w) A env fun e s'=>R (.error e) s') s₀) (notedBy (model prog w) A env fun e s'=>R (.error e) s') s₁) (notedBy (model prog w) A env fun e s'=>R (.error e) s') s)
  (n:Nat) (h:I n s):codeAny (model prog w) A (.compLoop (.ListComp elt [⟨target,iter,ifs,0⟩] scope pos) 0 it acc env) R s:=by
 refine codeAny_loop rfl I (fun n s hI=>?_) n h;show wpAny _ A ((compTurn (.ListComp elt [⟨target,iter,ifs,0⟩] scope pos) 0 it acc env).onRaise (fun x=>do noteFrame x env;theTreesLotGoes x)) _ _ s;refine wpAny_noted ?_;rw [compTurn_list];refine wpAny_bind (wpAny_standAt (wpAny_bind (wpAny_mono (turn n s hI) (fun r s₁ h₁=>?_) fun _ _ h'=>h')))
 cases r with
 |none=>exact wpAny_pure h₁
 |some v =>
  refine wpAny_bind (wpAny_mono h₁ (fun _ s₀ h₀=>?_) fun _ _ h'=>h');refine wpAny_bind (wpAny_mono h₀ (fun _ s₂ h₂=>wpAny_bind (wpAny_mono h₂ (fun ok s₃ h₃=>?_) fun _ _ h'=>h')) fun _ _ h'=>h')
  cases ok with
  |false=>exact wpAny_pure ⟨rfl,h₃⟩
  |true =>
   exact wpAny_bind (wpAny_bind (wpAny_mono h₃ (fun x s₄ h₄=>wpAny_bind (wpAny_mono h₄ (fun _ s₅ h₅=>wpAny_pure (wpAny_pure ⟨rfl,h₅⟩)) fun _ _ h'=>h')) fun _ _ h'=>h'))
def a6Z(J:It)(g:TG)(tf:TT)(te:TE)(D:Addr)(σ0:St)(H1:Hp)(Q:Hp->Prop):Prop :=
 ∃ W:Nat->Nat->St->Hp->Prop,(∃ m,W 0 m σ0 (upd H1 D (.lst [])))/\∀ i m σ H,W i m σ H ->
  (J.stop i H/\Q H)\/(J.go i H/\∀ x H2,J.yld i H x H2->g x σ H2 fun σ2 H3=>tf σ2 H3 fun b H4 =>
   if b=true then te σ2 H4 fun y H5=>∃ zs,H5 D=some (.lst zs)/\zs.length < sizeLine/\∃ m',m' < m/\W (i + 1) m' σ2 (upd H5 D (.lst (zs ++ [y])))
   else ∃ m',m' < m/\W (i + 1) m' σ2 H4)
def a8I(js:List (Option Nat))(wi:TI)(g:Shared->Hp->List Addr->TG)(tf:Shared->Hp->List Addr->TT)(te:Shared->Hp->List Addr->TE):TE:=fun σ H Q=>wi σ H fun J H1=>∀ (D:Addr),H1 D=none->∀ (s0:Shared) (H0:Hp) (fp:List Addr),a6Z J (g s0 H0 fp) (tf s0 H0 fp) (te s0 H0 fp) D (P4 js σ) H1 fun H'=>Q (.ref D) H'
theorem a2T{tg iter elt:Expr}{ifs:List Expr}{pos:Pos}{J:It}{it:Addr}{tn:Nat->Heap->Prop}{g:Shared->Hp->TG}{tf:Shared->Hp->TT}{te:Shared->Hp->TE}{E:Value->Shared->Prop}{RR:Value->Addr->Result->Shared->Prop}{Q:Addr->Hp->Prop}
  (hc:X.calm=true) (C:CompOk X N' js scope) (I:Inv X pins σ H s) (T:a3i X.prog X.w X.K tg J fp it tn) (st:tn 0 s.heap) (hf:∀ b ∈ fp,V9 X pins H b)
  (body:∀ (s0:Shared) (H0:Hp),PG (v6 X N' scope s0 H0 fp) tg (g s0 H0)/\PF (v6 X N' scope s0 H0 fp) ifs (tf s0 H0)/\PE (v6 X N' scope s0 H0 fp) elt (te s0 H0))
  (h:∀ D,H D=none->∀ (s0:Shared) (H0:Hp),a6Z J (g s0 H0) (tf s0 H0) (te s0 H0) D (P4 js σ) H (Q D))
  (hRR:∀ (D C:Addr) (H':Hp) (s':Shared) (m:Str->Option Value),s'.heap.Ns C m->s.heap.objs.size <= C->(∀ p ∈ X.pn ++ pins,p.1 ≠ C)->H' C=none->C ≠ X.env.locals->(∀ x c,X.env.cells.lookup x=some c->c ≠ C)->(X.s₀.heap.objs.size <= C)->Inv X pins σ H' s'->Q D H'->RR (.ref D) C (.ok .next) s') :
  wpAny (model X.prog X.w) X.A (newList []) (fun acc s₃=>wpAny (model X.prog X.w) X.A (newFunctionEnv scope X.env.globals (C6 X.env.cells scope.names []) [] X.env.qual none .none (some X.env)) (fun cenv s₄ =>
   codeAny (model X.prog X.w) X.A (.compStart (.ListComp elt [⟨tg,iter,ifs,0⟩] scope pos) 0 (.ref it) acc { cenv with scope:=relabel scope X.env }) (RR acc cenv.locals) s₄) E s₃) E s:=by
 have hfr:H s.heap.objs.size=none:=I.hok.fresh (Nat.le_refl _)
 have I1:Inv X pins σ (upd H s.heap.objs.size (.lst [])) { s with heap:=s.heap.push { cls:=.type "list",dict:=none,data:=.seq ([]:List Value).toArray } } :=
  I.laid (t':=s.toks) (fun b u e=>Heap.get?_push_of_some _ e) (Nat.le_refl _) ⟨Nat.zero_le _,[],_,.nil,Heap.get?_push_size _ rfl⟩
 refine wpAny_newObj_type (a7o ?_);have st1:tn 0 (s.heap.push { cls:=.type "list",dict:=none,data:=.seq ([]:List Value).toArray }):=T.keep _ _ _ st fun b hb o e=>Heap.get?_push_of_some _ e;have lt:∀ b ∈ fp,b < s.heap.objs.size:=fun b hb=>let ⟨_,e,_⟩:=T.obj _ _ st b hb;Heap.lt_size e
 have hf1:∀ b ∈ fp,V9 X pins (upd H s.heap.objs.size (.lst [])) b:=fun b hb=>⟨by rw [p9 (Nat.ne_of_lt (lt b hb))];exact (hf b hb).1,(hf b hb).2⟩
 have I2:=a3E (fp:=fp) I1 C hf1 (fun b hb=>let ⟨o,e,_⟩:=T.obj _ _ st1 b hb;⟨o,e⟩);have st2:tn 0 (pushCells ((s.heap.push { cls:=.type "list",dict:=none,data:=.seq ([]:List Value).toArray }).push { cls:=.type "dict",data:=.dict #[] }) scope.names):=T.keep _ _ _ st1 fun b hb o e=>pushCells_keeps _ _ b o (Heap.get?_push_of_some _ e);obtain ⟨W,⟨m0,w0⟩,turn⟩:=h _ hfr { s with heap:=s.heap.push { cls:=.type "list",dict:=none,data:=.seq ([]:List Value).toArray } } (upd H s.heap.objs.size (.lst []));obtain ⟨bg,bf,be⟩:=body { s with heap:=s.heap.push { cls:=.type "list",dict:=none,data:=.seq ([]:List Value).toArray } } (upd H s.heap.objs.size (.lst []));generalize hs1:({ s with heap:=s.heap.push { cls:=.type "list",dict:=none,data:=.seq ([]:List Value).toArray } }:Shared)=s1 at I1 I2 st2 bg bf be turn ⊢;have es1:s1.heap=s.heap.push { cls:=.type "list",dict:=none,data:=.seq ([]:List Value).toArray }:=by rw [<- hs1]
 have sz1:s1.heap.objs.size=s.heap.objs.size + 1:=by rw [es1,Heap.size_push]
 rw [<- es1] at st2
 have stat:∀ {H':Hp},(∀ b ∈ fp,H' b=none)->∀ b ∈ fp,V9 (v6 X N' scope s1 (upd H s.heap.objs.size (.lst [])) fp) [] H' b:=fun hn b hb=>by
  refine ⟨hn b hb,(I2.ok.exf b hb).1,?_,.inl hb,(I2.ok.exf b hb).2,fun p hp=>absurd (show p ∈ ([]:List (Addr×Obj)) from hp) (by simp)⟩;exact I2.ok.exfs b hb
 have outE:∀ {α:Type} {t:Sem α} {QQ:α->Shared->Prop} {E':Value->Shared->Prop} {s':Shared},wpAny (model X.prog X.w) X.A t QQ (fun _ _=>False) s'->wpAny (model X.prog X.w) X.A t QQ E' s':=fun q=>wpAny_mono q (fun _ _ z=>z) fun _ _ z=>z.elim
 have loop:∀ s2:Shared,s2={ s1 with heap:=pushCells (s1.heap.push { cls:=.type "dict",data:=.dict #[] }) scope.names } ->
   codeAny (model X.prog X.w) X.A (.compLoop (.ListComp elt [⟨tg,iter,ifs,0⟩] scope pos) 0 (.ref it) (.ref s.heap.objs.size) (v6 X N' scope s1 (upd H s.heap.objs.size (.lst [])) fp).env) (RR (.ref s.heap.objs.size) s1.heap.objs.size) s2:=by
  rintro s2 rfl
  refine a1v (fun n s'=>∃ i σ' H',Inv (v6 X N' scope s1 (upd H s.heap.objs.size (.lst [])) fp) [] σ' H' s'/\tn i s'.heap/\(∀ b ∈ fp,H' b=none)/\W i n σ' H') ?_ m0 ⟨0,_,_,I2,st2,fun b hb=>(hf1 b hb).1,w0⟩
  rintro n s3 ⟨i,σ3,H3,I3,st3,fr3,w3⟩
  rcases turn i n σ3 H3 w3 with ⟨stop,q⟩ | ⟨go,step⟩
  ·refine outE (thn (T.done (v6 X N' scope s1 (upd H s.heap.objs.size (.lst [])) fp) rfl rfl rfl hc i [] s3 σ3 H3 (fun _ _=>False) I3 (stat fr3) st3 stop) fun r s4 zz0=>?_);obtain ⟨hr,I4⟩:=zz0;subst hr;have u4:Un (frs X.stack) fp (upd H s.heap.objs.size (.lst [])) H3 s1.heap s4.heap:=I4.base
   have IX:Inv X pins σ H3 s4:=I1.call' I4.os u4 I4.hok I4.bare fun b hb=>by
    obtain ⟨_,f1,_,f3,f4,f5⟩:=hf1 b hb;exact ⟨f3,f1,f4,f5⟩
   obtain ⟨m,hn,_⟩:=I4.loc;have cle:s.heap.objs.size <= s1.heap.objs.size:=by rw [sz1];exact Nat.le_succ _
   have clt:∀ b,b < s1.heap.objs.size->b ≠ s1.heap.objs.size:=fun b hb=>Nat.ne_of_lt hb;refine hRR _ s1.heap.objs.size H3 s4 m hn cle (fun p hp=>clt _ (Heap.lt_size (I1.pin p hp).1)) I4.free (Ne.symm (clt _ I1.lt)) (fun x c e=>?_) (Nat.le_trans I.sz cle) IX q;obtain ⟨v,z⟩:=I1.cell x c e;exact clt _ z.lt
  ·refine outE (thn (T.item (v6 X N' scope s1 (upd H s.heap.objs.size (.lst [])) fp) rfl rfl rfl hc i [] s3 σ3 H3 (fun _ _=>False) I3 (stat fr3) st3 go) fun r s4 zz0=>?_);obtain ⟨u,hr,h4⟩:=zz0;subst hr;refine outE (thn h4 fun _ s5 zz0=>?_);obtain ⟨x,H5,I5,r5,y5,st5,fr5⟩:=zz0;have I5':=I5.pinned (stat fr5) (T.obj _ _ st5);refine outE (thn (bg _ s5 σ3 H5 x u _ I5' r5 (step x H5 y5)) fun _ s6 zz0=>?_);obtain ⟨σ6,H6,I6,q6⟩:=zz0;refine outE (thn (bf _ s6 σ6 H6 _ I6 q6) fun ok s7 zz0=>?_);obtain ⟨H7,I7,q7⟩:=zz0
   have again:∀ {s8:Shared} {σ8:St} {H8:Hp} {m':Nat},Inv (v6 X N' scope s1 (upd H s.heap.objs.size (.lst [])) fp) ([] ++ X1 fp s5.heap) σ8 H8 s8->m' < n->W (i + 1) m' σ8 H8 ->
     ∃ m,m < n/\∃ i σ' H',Inv (v6 X N' scope s1 (upd H s.heap.objs.size (.lst [])) fp) [] σ' H' s8/\tn i s8.heap/\(∀ b ∈ fp,H' b=none)/\W i m σ' H':=fun {s8 σ8 H8 m'} I8 hm w8=>by
    refine ⟨m',hm,i + 1,σ8,H8,I8.unpinned,T.keep _ _ _ st5 fun b hb o e=>(I8.pin (b,o) (List.mem_append_right _ (List.mem_append_right _ (N5 hb e)))).1,fun b hb=>?_,w8⟩;obtain ⟨o,e,d⟩:=T.obj _ _ st5 b hb;exact (I8.pin (b,o) (List.mem_append_right _ (List.mem_append_right _ (N5 hb e)))).2.1
   cases ok with
   |false =>
    rw [if_neg Bool.false_ne_true] at q7 ⊢;obtain ⟨m',hm,w8⟩:=q7;exact again I7 hm w8
   |true =>
    rw [if_pos rfl] at q7 ⊢;refine outE (thn (be _ s7 σ6 H7 _ I7 q7) fun y s8 zz0=>?_);obtain ⟨v,H8,I8,r8,zs,hz,hlen,m',hm,w8⟩:=zz0;obtain ⟨hzl,its,k,rv,e8⟩:=I8.hok _ _ hz;refine outE (PyProof.Rows.append_at (hsz:=by rw [List.size_toArray,<- rv.length];exact hzl) e8 fun h9 sb e9=>?_);rw [List.push_toArray] at e9
    have I9:Inv (v6 X N' scope s1 (upd H s.heap.objs.size (.lst [])) fp) ([] ++ X1 fp s5.heap) σ6 (upd H8 s.heap.objs.size (.lst (zs ++ [v]))) { s8 with heap:=h9 } :=
     I8.write (t':=s8.toks) (by rw [hz];trivial) (.inl rfl) (fun b o hb e=>(sb.2 b hb).trans e) ⟨_,e9⟩ ⟨by rw [List.length_append,List.length_singleton];exact hlen,its ++ [y],k + 1,rv.append (.cons r8 .nil),e9⟩
    exact again I9 hm w8
 show codeAny (model X.prog X.w) X.A (.compStart (.ListComp elt [⟨tg,iter,ifs,0⟩] scope pos) 0 (.ref it) (.ref s.heap.objs.size) (v6 X N' scope s1 (upd H s.heap.objs.size (.lst [])) fp).env) (RR (.ref s.heap.objs.size) s1.heap.objs.size) { s1 with heap:=pushCells (s1.heap.push { cls:=.type "dict",data:=.dict #[] }) scope.names };exact codeAny_compStart_list (loop _ rfl) (T.self X.A 0 _ _ _ st2 (loop _ rfl))
theorem G8{α:Type}{n:Str}{c:α}:∀ {l:List (Str×α)},(l.map (·.1)).Nodup->(n,c) ∈ l->l.lookup n=some c
 |[],_,h=>nomatch h
 |(m,e) :: r,hn,hm=>by
  have hn:(m :: r.map (·.1)).Nodup:=hn;obtain ⟨h1,h2⟩:=List.nodup_cons.mp hn;rw [List.lookup_cons]
  rcases List.mem_cons.mp hm with q | q
  ·cases q;simp
  ·have hne:(n == m)=false:=by
    cases hb:n == m with
    |false=>rfl
    |true=>exact absurd (List.mem_map.mpr ⟨(n,c),q,beq_iff_eq.mp hb⟩) h1
   rw [hne];exact G8 h2 q
variable {tg iter elt:Expr} {ifs:List Expr} {pos:Pos} {wi:TI} {g:Shared->Hp->List Addr->TG} {tf:Shared->Hp->List Addr->TT} {te:Shared->Hp->List Addr->TE}
theorem b1h(hc:X.calm=true)(C:CompOk X N' js scope)(hi:PI X tg iter wi)
  (body:∀ (s0:Shared) (H0:Hp) (fp:List Addr),PG (v6 X N' scope s0 H0 fp) tg (g s0 H0 fp)/\PF (v6 X N' scope s0 H0 fp) ifs (tf s0 H0 fp)/\PE (v6 X N' scope s0 H0 fp) elt (te s0 H0 fp))
  (hs:∀ x,foldedSetIterable iter X.env x=pure x:=by intro _;rfl):PE X (.ListComp elt [⟨tg,iter,ifs,0⟩] scope pos) (a8I js wi g tf te):=by
 intro pins s σ H Q I h;rw [eval_ListComp];have hcl:closureFor scope X.env=pure (C6 X.env.cells scope.names []):=S0 fun n hn=>Option.isSome_iff_exists.mpr (I.ok.has n (C.fr n hn));refine wpAny_comprehension_free (use:=none) rfl hs hcl C.kind (fun x hx hl=>G8 C.nd (by rw [<- hl];exact hx)) (thn (hi pins s σ H _ I h) fun v s1 h1=>thn h1 fun itv s2 h2=>?_);obtain ⟨it,fp,tn,J,H2,e,I2,T,st2,f2,q⟩:=h2;subst e;refine a2T (RR:=fun acc C=>compPost (model X.prog X.w) X.A X.xe none (EP X pins σ Q) acc C) hc C I2 T st2 f2 (g:=fun s0 H0=>g s0 H0 fp) (tf:=fun s0 H0=>tf s0 H0 fp) (te:=fun s0 H0=>te s0 H0 fp) (fun s0 H0=>body s0 H0 fp) (Q:=fun D H'=>Q (.ref D) H') (fun D hD s0 H0=>q D hD s0 H0 fp) ?_;intro D Ca H' s' m hn hle hp hC hL hcel hs0 I' q';exact ⟨m,hn,fun h' hs'=>⟨.ref D,H',I'.turned (t':=s'.toks) (it:=Ca) (fun b o hb e=>(hs'.2 b hb).trans e) hC hL (.inr hs0) hcel hp,rfl,q'⟩⟩
theorem b0T{i:Nat}{x:Str}{px cpos:Pos}(hc:X.calm=true)(C:CompOk X N' js scope)(hi:PI X tg iter wi)
  (body:∀ (s0:Shared) (H0:Hp) (fp:List Addr),PG (v6 X N' scope s0 H0 fp) tg (g s0 H0 fp)/\PF (v6 X N' scope s0 H0 fp) ifs (tf s0 H0 fp)/\PE (v6 X N' scope s0 H0 fp) elt (te s0 H0 fp))
  (hN:X.N.Nodup) (hix:X.N[i]?=some x) (hx:Loc X.env.scope x)
  (hsw:swapsWith (.ListComp elt [⟨tg,iter,ifs,0⟩] scope cpos) (some (.Name x px)) pos.line X.env=pure true:=by rfl) (hf:X.fn x=true\/X.env.scope.names.lookup x=some .local:=by trivial)
  (hs:∀ x,foldedSetIterable iter X.env x=pure x:=by intro _;rfl):PS X (.Assign [.Name x px] (.ListComp elt [⟨tg,iter,ifs,0⟩] scope cpos) pos) (a8g (a8I js wi g tf te) (a2V i)):=by
 intro pins s σ H D0 I h;rw [exec_Assign_Name_used _ _ _ _ hsw];refine wpAny_bind (wpAny_standAt (wpAny_bind ?_));show wpAny _ X.A (do let _ <- comprehension (.ListComp elt [⟨tg,iter,ifs,0⟩] scope cpos) scope X.env _ (newList []) false (eval iter X.env) (some (assign (.Name x px) X.env))) _ _ s;have hcl:closureFor scope X.env=pure (C6 X.env.cells scope.names []):=S0 fun n hn=>Option.isSome_iff_exists.mpr (I.ok.has n (C.fr n hn))
 refine wpAny_bind (wpAny_mono (wpAny_comprehension_free (use:=some (assign (.Name x px) X.env)) (Q:=fun _ s'=>SP X pins D0 .next s') rfl hs hcl C.kind (fun x hx hl=>G8 C.nd (by rw [<- hl];exact hx)) (thn (hi pins s σ H _ I h) fun v s1 h1=>thn h1 fun itv s2 h2=>?_))
  (fun _ s' hq=>wpAny_pure (wpAny_pure hq)) fun _ _ e=>e)
 obtain ⟨it,fp,tn,J,H2,e,I2,T,st2,f2,q⟩:=h2;subst e;refine a2T (RR:=fun acc C=>compPost (model X.prog X.w) X.A X.xe (some (assign (.Name x px) X.env)) (fun _ s'=>SP X pins D0 .next s') acc C) hc C I2 T st2 f2 (g:=fun s0 H0=>g s0 H0 fp) (tf:=fun s0 H0=>tf s0 H0 fp) (te:=fun s0 H0=>te s0 H0 fp) (fun s0 H0=>body s0 H0 fp) (Q:=fun D H'=>D0.nx (σ.set i (some (.ref D))) H') (fun D hD s0 H0=>q D hD s0 H0 fp) ?_;intro D Ca H' s' m hn hle hp hC hL hcel hs0 I' q';show wpAny _ X.A (assign (.Name x px) X.env (.ref D)) _ _ _;refine wpAny_assign_Name (a0P I' hN hix hx (v:=.ref D) rfl (fun s'' I'' hsb=>?_) hf);obtain ⟨a,sb,ha⟩:=hsb
 have nCa:Ca ≠ a:=by
  rcases ha with z | z
  ·rw [z];exact hL
  ·exact fun w=>hcel x a z w.symm
 exact ⟨m,hn.sameBut sb nCa,fun h' hs'=>⟨σ.set i (some (.ref D)),H',I''.turned (t':=s''.toks) (it:=Ca) (fun b o hb e=>(hs'.2 b hb).trans e) hC hL (.inr hs0) hcel hp,q'⟩⟩
end
end L2
namespace L2
open PySem PySem.Spec PyProof.Rows
section
variable {prog:Program} {w:World} {A:Around} {E:Value->Shared->Prop} {s:Shared}
theorem V7{it l:Addr}{i:Nat}{items:Array Value}{x:Value}{Q:Value->Shared->Prop}(hit:s.heap.IsTupleIter it l i)
  (hl:s.heap.IsTuple l items) (hx:items[i]?=some x)
  (hQ:∀ h',h'.IsTupleIter it l (i + 1)->Heap.SameBut it s.heap h'->Q x { s with heap:=h' }) :
  wpAny (model prog w) A (Builtin.SmallTypes.nextOf (.ref it)) Q E s:=by
 obtain ⟨o,ho,hc,hd⟩:=id hit;obtain ⟨ol,hol,_,nl,hdl⟩:=hl;unfold Builtin.SmallTypes.nextOf
 refine wpAny_bind (wpAny_callSpecial?_slot (name:=Str.ofString "__next__") hit.typeIs F.slot_tuple_iterator_next
  (wpAny_call_entry F.slot_tuple_iterator_next hit.typeIs F.entry_tuple_iterator_next ?_ (F.args_tuple_iterator_next_1 _)))
 show wpAny _ _ (field (.ref it) 0 >>= _) _ _ s;refine wpAny_bind (wpAny_field ho hd (x:=.ref l) rfl ?_);show wpAny _ _ (if (Value.ref l == Value.none)=true then _ else _) _ _ s;rw [if_neg (show ¬ ((Value.ref l == Value.none)=true) from Bool.false_ne_true)];show wpAny _ _ (field (.ref it) 1 >>= _) _ _ s;refine wpAny_bind (wpAny_field ho hd (x:=.int i 0) rfl ?_);show wpAny _ _ (seqItems? (.ref l) >>= _) _ _ s;refine wpAny_bind (wpAny_seqItems hol hdl ?_);simp only [Int.toNat_natCast,hx];refine wpAny_bind (wpAny_setField ho hd (by simp) (wpAny_pure ⟨x,rfl,wpAny_pure (hQ _ ?_ (Heap.SameBut.update ..))⟩))
 exact ⟨_,Heap.get?_update_self _ ho (Obj.isFreed_of_fields (Obj.data_mapFields hd _)),(Obj.cls_mapFields ..).trans hc,by
  rw [Obj.data_mapFields hd];simp [rawInt]⟩
theorem W8{it l:Addr}{i:Nat}{items:Array Value}{Q:Value->Shared->Prop}(hh:A.handled=none)
  (hit:s.heap.IsTupleIter it l i) (hl:s.heap.IsTuple l items) (hx:items[i]?=none)
  (hE:∀ h' e,Heap.ExtBut it s.heap h'->(∃ o,h'.get? e=some o/\o.cls = .type "StopIteration")->E (.ref e) { s with heap:=h' }) :
  wpAny (model prog w) A (Builtin.SmallTypes.nextOf (.ref it)) Q E s:=by
 obtain ⟨o,ho,hc,hd⟩:=id hit;obtain ⟨ol,hol,_,nl,hdl⟩:=hl;unfold Builtin.SmallTypes.nextOf
 refine wpAny_bind (wpAny_callSpecial?_slot (name:=Str.ofString "__next__") hit.typeIs F.slot_tuple_iterator_next
  (wpAny_call_entry F.slot_tuple_iterator_next hit.typeIs F.entry_tuple_iterator_next ?_ (F.args_tuple_iterator_next_1 _)))
 show wpAny _ _ (field (.ref it) 0 >>= _) _ _ s;refine wpAny_bind (wpAny_field ho hd (x:=.ref l) rfl ?_);show wpAny _ _ (if (Value.ref l == Value.none)=true then _ else _) _ _ s;rw [if_neg (show ¬ ((Value.ref l == Value.none)=true) from Bool.false_ne_true)];show wpAny _ _ (field (.ref it) 1 >>= _) _ _ s;refine wpAny_bind (wpAny_field ho hd (x:=.int i 0) rfl ?_);show wpAny _ _ (seqItems? (.ref l) >>= _) _ _ s;refine wpAny_bind (wpAny_seqItems hol hdl ?_);simp only [Int.toNat_natCast,hx];refine wpAny_bind (wpAny_rule (wpAny_bind (wpAny_setField ho hd (by simp) ?_)));show wpAny _ _ (newExc (.type "StopIteration") [] >>= _) _ _ _;refine wpAny_bind ?_;simp only [newExc,newTuple];refine wpAny_bind (wpAny_newObj_type ?_ (by size_fits));refine wpAny_bind (m:=firstArgMember _ _) (wpAny_of_eq (a:=Value.none) (by first | rfl | (simp only [firstArgMember];rfl)) ?_);refine wpAny_newObj_type ?_ (by size_fits);simp only [raiseNew];refine wpAny_bind (wpAny_handled ?_)
 first | rw [show A.in1.handled=none from hh] | rw [hh]
 refine wpAny_bind (wpAny_pure (wpAny_throw ?_));exact hE _ _ (((Heap.SameBut.update ..).extBut.push _).push _) ⟨_,Heap.get?_push_size _ rfl,rfl⟩
end
theorem a2x{prog:Program}{w:World}{A:Around}(hh:A.handled=none)(it l:Addr)(hne:l ≠ it)(items:Array Value) :
  Draws prog w A it [it,l] items.size (fun i v=>items[i]?=some v) (fun i h=>h.IsTupleIter it l i/\h.IsTuple l items) where
 live:=fun _ _ st=>let ⟨o,ho,_⟩:=st.1;⟨o,ho⟩
 frame:=fun _ _ _ st hk=>⟨st.1.at fun o e=>hk it (by simp) o e,let ⟨o,ho,r⟩:=st.2;⟨o,hk l (by simp) o ho,r⟩⟩
 item:=fun i s Q E hi st hQ=>by
  refine V7 st.1 st.2 (x:=items[i]) (by simp [hi]) fun h' hit hs=>?_;exact hQ _ h' s.toks (by simp [hi]) ⟨hit,st.2.extBut hs.extBut hne⟩ hs
 done:=fun s Q E st hE=>W8 hh st.1 st.2 (by simp) hE
theorem P0(l:Addr)(items:Array Value)(n:Nat)(dct:Option Addr)(sl:Array (Option Value)) :
  Meets (Builtin.«enumerate.__new__» ⟨[.type "enumerate",.ref l],[]⟩) (fun _ R s=>s.heap.get? l=some { cls:=.type "tuple",dict:=dct,data:=.seq items n,slots:=sl } /\
   R (.ok (.ret (.ref (s.heap.push { cls:=.type "tuple_iterator",data:=.fields #[.ref l,.int 0 0] }).objs.size)))
    { s with heap:=(s.heap.push { cls:=.type "tuple_iterator",data:=.fields #[.ref l,.int 0 0] }).push { cls:=.type "enumerate",data:=.fields #[.none,.bool false,.ref s.heap.objs.size,rawInt 0,.none,.none] } }) :=
 .of_wp fun prog w A R s h=>by
  obtain ⟨hp,g,d,tk,os⟩:=s;obtain ⟨hl,h⟩:=h;have hsub:=sub_enumerate;have hL:Heap.IsTuple (Shared.heap ⟨hp,g,d,tk,os⟩) l items:=⟨_,hl,rfl,n,rfl⟩
  wp_walk using PySem.AutoSeq1.wpAny_loadPart' hl
  refine wpAny_stack_any fun st=>wpAny_pure ?_;split
  ·rename_i c _ _ _ _ _
   cases (c == Value.type "enumerate")
   ·wp_walk using PySem.AutoSeq1.wpAny_loadPart' hl,wpAny_pyIter_tuple hL
    exact ⟨_,rfl,h⟩
   ·wp_walk using PySem.AutoSeq1.wpAny_loadPart' hl,wpAny_pyIter_tuple hL
    exact ⟨_,rfl,h⟩
  ·wp_walk using PySem.AutoSeq1.wpAny_loadPart' hl,wpAny_pyIter_tuple hL
   exact ⟨_,rfl,h⟩
theorem O6{prog:Program}{w:World}{A:Around}{E:Value->Shared->Prop}{s:Shared}{l:Addr}{items:Array Value}{Q:Value->Shared->Prop}(hL:s.heap.IsTuple l items)
  (h:∀ h',IsEnum h' (s.heap.objs.size + 1) s.heap.objs.size 0 .none->h'.IsTupleIter s.heap.objs.size l 0->h'.objs.size=s.heap.objs.size + 2 ->
   (∀ b o,s.heap.get? b=some o->h'.get? b=some o)->Q (.ref (s.heap.objs.size + 1)) { s with heap:=h' }) :
  wpAny (model prog w) A (call (.type "enumerate") [.ref l]) Q E s:=by
 obtain ⟨⟨c,dct,dt,sl⟩,hl,hc,n,hd⟩:=hL
 replace hc:c = .type "tuple":=hc
 replace hd:dt = .seq items n:=hd
 subst hc hd
 refine callType_new F.called_enumerate (by decide) (F.typeCall_enumerate_1 _) (F.newCall_enumerate_1 _) (fun obj=>F.args_object_init_2 obj _) F.entry_enumerate_new
  (P0 l items n dct sl) ⟨hl,?_⟩
 have hz:(s.heap.push { cls:=.type "tuple_iterator",data:=.fields #[.ref l,.int 0 0] }).objs.size=s.heap.objs.size + 1:=Heap.size_push ..;show _/\_;rw [hz]
 have he:IsEnum ((s.heap.push { cls:=.type "tuple_iterator",data:=.fields #[.ref l,.int 0 0] }).push
   { cls:=.type "enumerate",data:=.fields #[.none,.bool false,.ref s.heap.objs.size,rawInt 0,.none,.none] }) (s.heap.objs.size + 1) s.heap.objs.size 0 .none:=by
  have:=Heap.get?_push_size (s.heap.push { cls:=.type "tuple_iterator",data:=.fields #[.ref l,.int 0 0] })
   (o:={ cls:=.type "enumerate",data:=.fields #[.none,.bool false,.ref s.heap.objs.size,rawInt 0,.none,.none] }) rfl
  rw [hz] at this;exact this
 refine ⟨⟨_,he,rfl⟩,h _ he ⟨_,Heap.get?_push_of_some _ (Heap.get?_push_size _ rfl),rfl,rfl⟩ (by rw [Heap.size_push,hz]) fun b o x=>Heap.get?_push_of_some _ (Heap.get?_push_of_some _ x)⟩
section
variable {X:Cx} {pins:List (Addr×Obj)} {σ:St} {H:Hp} {s:Shared} {h':Heap}
theorem Inv.turned2{t':Nat}{e it:Addr}(I:Inv X pins σ H s)(k:∀ b o,b ≠ e->b ≠ it->s.heap.get? b=some o->h'.get? b=some o)(fe:V9 X pins H e)(fi:V9 X pins H it):Inv X pins σ H { s with heap:=h',toks:=t' }:=by
 have ne1:∀ b,b ∉ [e,it]->b ≠ e/\b ≠ it:=fun b hb=>⟨fun z=>hb (by simp [z]),fun z=>hb (by simp [z])⟩
 have nit:∀ b u,H b=some u->b ≠ e/\b ≠ it:=fun b u q=>⟨fun z=>(by rw [z,fe.1] at q;cases q),fun z=>(by rw [z,fi.1] at q;cases q)⟩
 refine I.step (g':=s.gens) (d':=s.drawn) (ch:=[e,it]) (fun b hb=>?_) (fun b o _ _ hc q _=>k b o (ne1 b hc).1 (ne1 b hc).2 q) (fun b o _ _ hc q _=>⟨o.slots,k b o (ne1 b hc).1 (ne1 b hc).2 q⟩) (fun _ _ _ _ n=>n)
  (fun b o hc q=>⟨o,k b o (ne1 b hc).1 (ne1 b hc).2 q⟩) (fun _ _ q=>q) (fun _ _ _ q=>q) (fun b ps q=>⟨#[],by rw [q];simp⟩) (fun m hm=>?_) (fun b u q=>?_) I.bare
 ·rcases List.mem_cons.mp hb with z | z
  ·subst z;exact ⟨fe.2.2.2.1,fe.2.1,fe.2.2.2.2.1,fe.2.2.2.2.2⟩
  ·have z:=List.mem_singleton.mp z;subst z;exact ⟨fi.2.2.2.1,fi.2.1,fi.2.2.2.2.1,fi.2.2.2.2.2⟩
 ·obtain ⟨o,es,ep,ho,r⟩:=hm;exact ⟨o,es,ep,k _ o (Ne.symm fe.2.1) (Ne.symm fi.2.1) ho,r⟩
 ·refine (I.hok b u q).stay (fun c v hc z=>?_) (fun _ z=>z) fun _ _ z=>z
  rcases hc with y | y
  ·rw [y];rw [y] at z;exact k b v (nit b u q).1 (nit b u q).2 z
  ·exact k c v (nit c _ y).1 (nit c _ y).2 z
end
structure Z5(P:Program)(w:World)(K:PySem.W.Frag)(a it:Addr)(Sq:Hp->List V->Prop)(IsIt:Nat->Heap->Prop):Prop where
 at_:∀ i h h',IsIt i h->(∀ o,h.get? it=some o->h'.get? it=some o)->IsIt i h'
 live:∀ i h,IsIt i h->∃ o,h.get? it=some o/\∀ v,o.data ≠ .cell v
 drw:∀ (X:Cx),X.prog=P->X.w=w->X.K=K->X.calm=true->∀ (i:Nat) (pins:List (Addr×Obj)) (s:Shared) (σ:St) (H:Hp) (xs:List V),Inv X pins σ H s->IsIt i s.heap->Sq H xs ->
  ∃ its:List Value,Vals xs its/\(∃ oa,s.heap.get? a=some oa/\oa.cls ≠ .type "enumerate")/\∃ St:Nat->Heap->Prop,Draws P w X.A.in1 it [it,a] its.length (fun i v=>its[i]?=some v) St/\St i s.heap/\∀ j h',St j h'->IsIt j h'
 inj:∀ (X:Cx),X.prog=P->X.w=w->X.K=K->∀ (pins:List (Addr×Obj)) (s:Shared) (σ:St) (H:Hp) (xs ys:List V),Inv X pins σ H s->Sq H xs->Sq H ys->xs=ys
def Ite(Sq:Hp->List V->Prop):It :=
 ⟨fun i H=>∃ xs x,Sq H xs/\xs[i]?=some x,fun i H x H'=>∃ T v,x = .ref T/\H T=none/\H'=upd H T (.tup [.int (i:Nat),v])/\∀ xs,Sq H xs->xs[i]?=some v,fun i H=>∃ xs,Sq H xs/\xs.length=i⟩
theorem X5{A:Around}(h:A.handled=none):A.in1.handled=none:=h
theorem a8b{P:Program}{w:World}{K:PySem.W.Frag}(a it:Addr):Z5 P w K a it (fun H xs=>SqL K H a xs) (fun i h=>h.IsListIter it a i) where
 at_:=fun i h h' st k=>st.at k
 live:=fun i h st=>by
  obtain ⟨o,e,c,d⟩:=st;exact ⟨o,e,fun v z=>by rw [d] at z;cases z⟩
 drw:=by
  intro X hP hw hK hc i pins s σ H xs I hit hq;subst hP hw hK;obtain ⟨its,rv,p,hz⟩:=I.list hq;obtain ⟨oa,e1,c1,r1⟩:=id p.isList
  have hne:a ≠ it:=fun z=>by
   obtain ⟨o,e,c,_⟩:=hit;rw [<- z,e1] at e;cases e;rw [c1] at c;injection c with c;exact absurd c (by decide)
  refine ⟨its,rv,⟨oa,e1,fun z=>(by rw [c1] at z;injection z with z;exact absurd z (by decide))⟩,(fun i h=>h.IsListIter it a i/\h.IsList a its.toArray),?_,⟨hit,p.isList⟩,fun j h' st=>st.1⟩;have D:=Draws.list (prog:=X.prog) (w:=X.w) (A:=X.A.in1) (X5 (I.ok.hd hc)) it a hne its.toArray
  simpa using D
 inj:=by
  intro X hP hw hK pins s σ H xs ys I h1 h2;subst hP hw hK;exact I.list_inj h1 h2
theorem b0P{P:Program}{w:World}{K:PySem.W.Frag}(a it:Addr):Z5 P w K a it (fun H xs=>SqT K H a xs) (fun i h=>h.IsTupleIter it a i) where
 at_:=fun i h h' st k=>st.at k
 live:=fun i h st=>by
  obtain ⟨o,e,c,d⟩:=st;exact ⟨o,e,fun v z=>by rw [d] at z;cases z⟩
 drw:=by
  intro X hP hw hK hc i pins s σ H xs I hit hq;subst hP hw hK;obtain ⟨its,rv,p,hz⟩:=I.tuple hq;obtain ⟨oa,e1,c1,r1⟩:=id p
  have hne:a ≠ it:=fun z=>by
   obtain ⟨o,e,c,_⟩:=hit;rw [<- z,e1] at e;cases e;rw [c1] at c;injection c with c;exact absurd c (by decide)
  refine ⟨its,rv,⟨oa,e1,fun z=>(by rw [c1] at z;injection z with z;exact absurd z (by decide))⟩,(fun i h=>h.IsTupleIter it a i/\h.IsTuple a its.toArray),?_,⟨hit,p⟩,fun j h' st=>st.1⟩;have D:=a2x (prog:=X.prog) (w:=X.w) (A:=X.A.in1) (X5 (I.ok.hd hc)) it a hne its.toArray
  simpa using D
 inj:=by
  intro X hP hw hK pins s σ H xs ys I h1 h2;subst hP hw hK;exact I.tuple_inj h1 h2
theorem a5m{P:Program}{w:World}{K:PySem.W.Frag}{a it:Addr}{Sq:Hp->List V->Prop}{IsIt:Nat->Heap->Prop}(S:Z5 P w K a it Sq IsIt)(e:Addr)(hei:e ≠ it){es:List Expr}{x1}{pos:Pos} :
  a3i P w K (.Tuple es x1 pos) (Ite Sq) [e,it] e (fun i h=>(∃ old,IsEnum h e it ((i:Nat):Int) old)/\IsIt i h) where
 mem:=by simp
 obj:=fun i h st b hb=>by
  obtain ⟨⟨old,he⟩,hit⟩:=st
  rcases List.mem_cons.mp hb with z | z
  ·subst z;exact ⟨_,he,fun v z=>by cases z⟩
  ·have z:=List.mem_singleton.mp z;subst z;exact S.live i h hit
 keep:=fun i h h' st k=>by
  obtain ⟨⟨old,he⟩,hit⟩:=st;exact ⟨⟨old,k e (by simp) _ he⟩,S.at_ i h h' hit fun o q=>k it (by simp) o q⟩
 item:=by
  intro X hP hw hK hc i pins s σ H E I hf st hg;obtain ⟨⟨old,he⟩,hit⟩:=st;obtain ⟨xs,x,hq,hx⟩:=hg;obtain ⟨its,rv,⟨oa,ea,ca⟩,St,D,st0,fromSt⟩:=S.drw X hP hw hK hc i pins s σ H xs I hit hq;obtain ⟨u,hu,ru⟩:=rv.get hx;have hlt:i < its.length:=(List.getElem?_eq_some_iff.mp hu).1
  have hef:e ∉ [it,a]:=fun z=>by
   rcases List.mem_cons.mp z with z | z
   ·exact hei z
   ·have z:=List.mem_singleton.mp z;have he':s.heap.get? e=some _:=he;rw [z,ea] at he';cases he';exact ca rfl
  refine wpAny_pyNext_enum_itemD D he st0 hlt hei hef fun y h1 tk hy heo hst1 htup hsz hk=>?_;have ey:y=u:=Option.some.inj (hy.symm.trans hu);subst ey;refine ⟨_,rfl,wpAny_letOwnedTupleGo_enum heo fun h2 he2 sb2=>?_⟩;have fe:=hf e (by simp);have fi:=hf it (by simp);have hT:H s.heap.objs.size=none:=I.hok.fresh (Nat.le_refl _)
  have Im:Inv X pins σ (upd H s.heap.objs.size (.tup [.int (i:Nat),x])) { s with heap:=s.heap.push { cls:=.type "tuple",data:=.seq #[.int i tk,y] } } :=
   I.laid (t':=s.toks) (fun b v q=>Heap.get?_push_of_some _ q) (Nat.le_refl _) ⟨by show 2 <= sizeLine;decide,[.int i tk,y],.cons ⟨tk,rfl⟩ (.cons ru .nil),⟨_,Heap.get?_push_size _ rfl,rfl,_,rfl⟩⟩
  have lt:∀ b o,s.heap.get? b=some o->b ≠ s.heap.objs.size:=fun b o q=>Nat.ne_of_lt (Heap.lt_size q);have ne:e ≠ s.heap.objs.size:=lt e _ he
  have ni:it ≠ s.heap.objs.size:=by
   obtain ⟨o,q,_⟩:=S.live i _ hit;exact lt it o q
  have up:∀ b,b ≠ s.heap.objs.size->(upd H s.heap.objs.size (.tup [.int (i:Nat),x])) b=H b:=fun b hb=>p9 hb;have fe':V9 X pins (upd H s.heap.objs.size (.tup [.int (i:Nat),x])) e:=⟨by rw [up e ne];exact fe.1,fe.2⟩
  have fi':V9 X pins (upd H s.heap.objs.size (.tup [.int (i:Nat),x])) it:=⟨by rw [up it ni];exact fi.1,fi.2⟩
  have I2:Inv X pins σ (upd H s.heap.objs.size (.tup [.int (i:Nat),x])) { s with heap:=h2,toks:=tk + 1 } :=
   Im.turned2 (t':=tk + 1) (h':=h2) (fun b o hbe hbi q=>by
    have q:(s.heap.push { cls:=.type "tuple",data:=.seq #[.int i tk,y] }).get? b=some o:=q;refine (sb2.2 b hbe).trans ?_
    rcases Heap.get?_push_cases q with ⟨hb,ho⟩ | q'
    ·subst hb;subst ho;exact htup
    ·exact hk b o hbe hbi q') fe' fi'
  refine ⟨.ref s.heap.objs.size,_,I2,rfl,⟨_,x,rfl,hT,rfl,fun ys hy=>by rw [S.inj X hP hw hK pins s σ H ys xs I hy hq];exact hx⟩,⟨⟨y,?_⟩,?_⟩,fun b hb=>?_⟩
  ·have ec:((i + 1:Nat):Int)=(i:Int) + 1:=by push_cast;rfl
   rw [ec];exact he2
  ·exact S.at_ _ _ _ (fromSt _ _ hst1) fun o q=>(sb2.2 it (Ne.symm hei)).trans q
  ·rcases List.mem_cons.mp hb with z | z
   ·subst z;exact fe'.1
   ·have z:=List.mem_singleton.mp z;subst z;exact fi'.1
 done:=by
  intro X hP hw hK hc i pins s σ H E I hf st hg;obtain ⟨⟨old,he⟩,hit⟩:=st;obtain ⟨xs,hq,hx⟩:=hg;obtain ⟨its,rv,⟨oa,ea,ca⟩,St,D,st0,fromSt⟩:=S.drw X hP hw hK hc i pins s σ H xs I hit hq;have hl:=rv.length;have ei:its.length=i:=by omega
  rw [<- ei] at st0;obtain ⟨f0,f1,f2,f3,f4,f5⟩:=hf it (by simp);exact wpAny_pyNext_enum_endD D he st0 fun h1 eb=>⟨rfl,I.turned (t':=s.toks) (fun b o hb q=>eb b o hb q) f0 f1 f3 f4 f5⟩
 self:=fun _ _ _ _ _ st h=>wpAny_pyIter_enum st.1.choose_spec h
section
variable {X:Cx}
theorem a2y{pins:List (Addr×Obj)}{σ:St}{H:Hp}{s:Shared}{h':Heap}{a:Addr}{Sq:Hp->List V->Prop}{IsIt:Nat->Heap->Prop}{R:It->Hp->Prop}{tg:Expr}(htg:∃ es x1 pos,tg = .Tuple es x1 pos)(I:Inv X pins σ H s)(S:Z5 X.prog X.w X.K a s.heap.objs.size Sq IsIt)
  (he:IsEnum h' (s.heap.objs.size + 1) s.heap.objs.size 0 .none) (hit:IsIt 0 h') (hk:∀ b o,s.heap.get? b=some o->h'.get? b=some o) (q:R (Ite Sq) H) {E:Value->Shared->Prop} :
  wpAny (model X.prog X.w) X.A (pyIter (.ref (s.heap.objs.size + 1))) (PIE X pins σ tg R) E { s with heap:=h' }:=by
 obtain ⟨es,x1,pos,rfl⟩:=htg;refine wpAny_pyIter_enum (s:={ s with heap:=h' }) he ?_;refine ⟨s.heap.objs.size + 1,[s.heap.objs.size + 1,s.heap.objs.size],_,_,H,rfl,I.kept (t':=s.toks) hk,a5m S (s.heap.objs.size + 1) (Nat.succ_ne_self _),⟨⟨_,he⟩,hit⟩,fun b hb=>?_,q⟩
 rcases List.mem_cons.mp hb with z | z
 ·subst z;exact I.fpOk (Nat.le_succ _) (I.hok.fresh (Nat.le_succ _))
 ·have z:=List.mem_singleton.mp z;subst z;exact I.fpOk (Nat.le_refl _) (I.hok.fresh (Nat.le_refl _))
end
end L2
namespace HT
open PySem PySem.Spec PyProof.Rows
section
variable {prog:Program} {w:World} {A:Around} {E:Value->Shared->Prop} {s:Shared}
theorem getItem_tuple_all{t sl:Addr}{items:Array Value}{vl vu:Value}{lo hi:Option Int}{Q:Value->Shared->Prop}(ht:IsTup s.heap t items)(hs:s.heap.IsSliceOf sl vl vu .none)(pl:IsPart vl lo)(pu:IsPart vu hi)
  (hw:sIx items.size 0 lo=0/\sIx items.size items.size hi=items.size) (h:Q (.ref t) s):wpAny (model prog w) A (getItem (.ref t) (.ref sl)) Q E s:=by
 obtain ⟨os,hos,hcs,hds⟩:=id hs;have hTs:s.TypeIs (.ref sl) "slice":=⟨os,hos,hcs⟩
 unfold getItem
 try with_reducible refine wpAny_holding ?_
 first | refine wpAny_bind (wpAny_pure ?_) | skip
 refine wpAny_bind (wpAny_sequenceKey ht.typeIs (by decide) ?_)
 refine wpAny_bind (wpAny_callSpecial?_slot (name:=Str.ofString "__getitem__") ht.typeIs PyProof.Rows.slot_tuple_getitem
  (wpAny_call_entry PyProof.Rows.slot_tuple_getitem ht.typeIs entry_tuple_getitem ?_ (args_tuple_getitem _ _)))
 show wpAny _ _ (Builtin.Tuple.tupleItemsOf (.ref t) >>= _) _ _ s;refine wpAny_bind (tupleItemsOf_ ht ?_);refine wpAny_bind (wpAny_typeOf hTs ?_);rw [if_pos (by decide)];refine wpAny_bind (M8 hs pl pu ?_)
 have hyes:(((sIx items.size 0 lo:Nat):Int) == 0 && (1:Int) == 1 && (sIx items.size items.size hi - sIx items.size 0 lo) == items.size)=true:=by
  rw [hw.1,hw.2];simp
 show wpAny _ _ (if (((sIx items.size 0 lo:Nat):Int) == 0 && (1:Int) == 1 && (sIx items.size items.size hi - sIx items.size 0 lo) == items.size)=true then _ else _) _ _ s;rw [if_pos hyes];refine wpAny_bind (m:=Builtin.Tuple.tupleIsExact _) ?_;unfold Builtin.Tuple.tupleIsExact;refine wpAny_bind (wpAny_typeOf ht.typeIs (wpAny_pure ?_));rw [if_pos (by decide)];exact wpAny_bind (wpAny_rule (wpAny_bind (wpAny_pure (wpAny_pure ⟨_,rfl,wpAny_pure h⟩))))
end
end HT
namespace L2
open PySem PySem.Spec PyProof.Rows
section
variable {X:Cx}
end
end L2
namespace L2
open PySem PySem.Spec PyProof.Rows
mutual
inductive Is(H:Hp):V->PyData->Prop
 |non:Is H .non .none
 |bl (b:Bool):Is H (.bl b) (.bool b)
 |int (i:Int):Is H (.int i) (.int i)
 |str (x:Str):Is H (.str x) (.str x)
 |lst {a:Addr} {xs:List V} {ds:List PyData}:H a=some (.lst xs)->Iss H xs ds->Is H (.ref a) (.list ds)
 |tup {a:Addr} {xs:List V} {ds:List PyData}:H a=some (.tup xs)->Iss H xs ds->Is H (.ref a) (.tuple ds)
inductive Iss(H:Hp):List V->List PyData->Prop
 |nil:Iss H [] []
 |cons {x:V} {d:PyData} {xs:List V} {ds:List PyData}:Is H x d->Iss H xs ds->Iss H (x :: xs) (d :: ds)
end
theorem Iss.get{H:Hp}:∀ {xs:List V} {ds:List PyData} {i:Nat} {d:PyData},Iss H xs ds->ds[i]?=some d->∃ x,xs[i]?=some x/\Is H x d
 |_,_,_,_,.nil,e=>by simp at e
 |_,_,0,_,.cons r _,e=>by simp at e;subst e;exact ⟨_,rfl,r⟩
 |_,_,i + 1,d,.cons _ t,e=>by
  obtain ⟨u,h1,h2⟩:=Iss.get (i:=i) (d:=d) t (by simpa using e);exact ⟨u,by simpa using h1,h2⟩
section
variable {X:Cx} {pins:List (Addr×Obj)} {σ:St} {H:Hp} {s:Shared}
theorem b1a:MtR X "int.bit_length" (fun x vs H Q=>∃ i,x = .int i/\vs=[]/\Q (.int (Builtin.Int.intBits i:Nat)) H):=by
 intro pins s σ H x xs v us Q I rx r h;obtain ⟨i,rfl,rfl,q⟩:=h;obtain ⟨t,rfl⟩:=rx;cases r;exact PyProof.Rows.call_int_bit_length ⟨.int (Builtin.Int.intBits i:Nat),H,I.tok _,⟨_,rfl⟩,q⟩
end
end L2
namespace L2
open PySem PySem.Spec PyProof.Rows
structure Cal(P:Program)(w:World)(K:PySem.W.Frag)(mg:Str->Option Value)(base:Heap)(k:Nat)(x:Str)(ps:List Str)(sp:Sp):Prop where
 ex:∃ (f:Addr) (fd:FuncData),u7 P w K mg base CX0 k f fd ps sp/\mg x=some (.ref f)/\PySem.W.keepIn K (.ref f)=true/\Binds K fd ps []
section
variable {X:Cx} {k:Nat} {ps:List Str} {sp:Sp} {x:Str} {p pos:Pos} {e:Expr} {es:List Expr} {t:TA}
theorem b3Z(c:Cal X.prog X.w X.K X.mg X.base k x ps sp)(hr:Room k X.A)(hg:Gl X x)(ha:PA X (e :: es) t)(hdb:(x == ("__debug__":Str))=false:=by decide)
  (he:starEach (e :: es) X.env=(false,eval e X.env) :: starEach es X.env:=by rfl) (hpl:(backTo pos (starEach es X.env)).any (·.1)=false:=by rfl):PE X (.Call (.Name x p) (e :: es) [] pos) (b2Z sp [] E0 t):=by
 obtain ⟨f,fd,F,hm,hk,hb⟩:=c.ex;exact a2b F hr hg hm hk hb .nil b7Q ha hdb he hpl
end
theorem X6:∀ ns:List Int,PyData.canLayAll0 (ns.map PyData.int)=true
 |[]=>by simp [PyData.canLayAll0]
 |n :: r=>by simp [PyData.canLayAll0,PyData.canLay0,X6 r]
theorem a0o:∀ ns:List Int,PyData.depthAll (ns.map PyData.int)=0
 |[]=>by simp [PyData.depthAll]
 |n :: r=>by simp [PyData.depthAll,PyData.depth,a0o r]
theorem V1(ns:List Int):SeqAt.shaped (.tuple (ns.map PyData.int))=true:=by simp [SeqAt.shaped,PyData.canLay0,PyData.depth,X6,a0o]
end L2
namespace L2
open PySem PySem.Spec PyProof.Rows
section
variable {X:Cx}
end
end L2
namespace L2
open PySem PySem.Spec PyProof.Rows
section
variable {X:Cx} {e st:Expr} {te:TE} {lo hi:Option Expr} {tl th ts:TO} {pos p2:Pos}
end
end L2
namespace L2
open PySem PySem.Spec PyProof.Rows
section
variable {X:Cx}
end
end L2
namespace L2
open PySem PySem.Spec PyProof.Rows
section
variable {prog:Program} {w:World} {A:Around} {E:Value->Shared->Prop} {s:Shared}
end
section
variable {X:Cx} {pos:Pos}
end
end L2
namespace L2
open PySem PySem.Spec PyProof.Rows
section
variable {prog:Program} {w:World} {A:Around} {E:Value->Shared->Prop} {s:Shared}
end
end L2
namespace L2
open PySem PySem.Spec PyProof.Rows
section
variable {X:Cx}
end
end L2
namespace L2
open PySem PySem.Spec PyProof.Rows
theorem KT.get{H:Hp}:∀ {kvs:List (List Key×V)} {xs:List (List Key×Addr×Value)} {i:Nat} {q:List Key×Addr×Value},KT H kvs xs->xs[i]?=some q->∃ p,kvs[i]?=some p/\H q.2.1=some (.tup (p.1.map kV))
 |_,_,_,_,.nil,e=>by simp at e
 |_,_,0,_,.cons r _,e=>by simp at e;subst e;exact ⟨_,rfl,r.2.1⟩
 |_,_,i + 1,q,.cons _ t,e=>by
  obtain ⟨p,h1,h2⟩:=KT.get (i:=i) (q:=q) t (by simpa using e);exact ⟨p,by simpa using h1,h2⟩
section
variable {X:Cx} {tg:Expr}
end
section
variable {X:Cx}
end
end L2
namespace L2
open PySem
end L2
namespace L2
open PySem PySem.Spec PyProof.Rows
section
variable {prog:Program} {w:World} {A:Around} {E:Value->Shared->Prop} {s:Shared}
end
end L2
namespace L2
open PySem PySem.Spec PyProof.Rows
section
variable {prog:Program} {w:World} {A:Around} {E:Value->Shared->Prop} {s:Shared}
end
end L2
namespace L2
open PySem PySem.Spec PyProof.Rows
section
variable {X:Cx}
end
def a4L(P:Program)(w:World)(K:PySem.W.Frag)(a:Addr)(kvs:List (Key×V)):Prop:=∃ (o:Obj) (es:Array DictEntry) (ep:Nat) (vs:List (Key×Value)),K.lookup a=some o/\o.ExactDict/\o.data = .dict es ep/\KeysOf (J3 P w) es/\Pairs (J3 P w) es.toList vs/\(vs.map (·.1)).Nodup/\KV kvs vs
def b8l(kvs:List (Key×V))(ty:TE):TE:=fun σ H Q=>ty σ H fun y H1=>∃ k v,y=kV k/\a0B kvs k=some v/\Q v H1
theorem b2m{X:Cx}{x:Str}{a:Addr}{kvs:List (Key×V)}{i:Expr}{ty:TE}{p pos:Pos}(hg:Gl X x)(hm:X.mg x=some (.ref a))(hk:a4L X.prog X.w X.K a kvs)(hi:PE X i ty)(hs:b5E i)(hd:(x == ("__debug__":Str))=false:=by decide):PE X (.Subscript (.Name x p) i pos) (b8l kvs ty):=by
 intro pins s σ H Q I h;obtain ⟨o,es,ep,vs,h1,h2,h3,h4,h5,h6,h7⟩:=hk;refine b1w PySem.F.slot_dict_getitem.lookup hs (L4 I hg hm (thn (hi pins s σ H _ I h) fun iv s2 ⟨y,H2,I2,ry,k,v,ey,hv,q2⟩=>?_) hd);subst ey;have dd:s2.heap.DictOf (J3 X.prog X.w) a vs:=⟨o,es,ep,I2.kIn a o h1,h2,h3,h4,h5,h6⟩
 obtain ⟨w',hw,rw'⟩:=RelO.some_of (v:=v) (o:=valueAt vs k) (by rw [<- hv];exact h7.val k);exact ⟨dd.typeIs,wpAny_getItem_of (b7K ry) dd.mapOf hw ⟨v,H2,I2.tok _,rw',q2⟩⟩
end L2
namespace L2
open PySem
end L2
namespace L2
open PySem PySem.Spec PyProof.Rows
section
variable {X:Cx}
end
end L2
namespace DL
open PySem PySem.Spec L2
inductive D where
 |non | bl (b:Bool) | int (i:Int) | str (x:Str) | tup (xs:List D) | lst (xs:List D) | scr (xs:List D) | ref (i:Nat)
 |exc (cn:Str) (fs:List (Str×Int))
inductive O where
 |lst (xs:List D) | dT (z:Option Obj) (kvs:List (List Key×D)) | dK (kvs:List (Key×D)) | ins (cn:Str) (fs:List (Str×D))
structure KP where
 K:PySem.W.Frag
 π:List Addr
def VT(K:KP)(α:List Addr)(H:Hp)(a:Addr)(us:List V):Prop:=a ∉ α/\a ∉ K.π/\H a=some (.tup us)
def VS(K:KP)(α:List Addr)(H:Hp)(a:Addr)(us:List V):Prop :=
 (a ∉ α/\a ∉ K.π/\Rd H a (.lst us))\/∃ (o:Obj) (its:Array Value) (n:Nat),K.K.lookup a=some o/\o.cls = .type "list"/\o.dict=none/\o.data = .seq its n/\its.size <= sizeLine/\Vals us its.toList
def VL(K:KP)(α:List Addr)(H:Hp)(a:Addr)(us:List V):Prop:=a ∉ α/\a ∉ K.π/\H a=some (.lst us)
def VE(K:KP)(α:List Addr)(H:Hp)(a:Addr)(o:HO):Prop:=a ∉ α/\a ∉ K.π/\H a=some o
def G5(fs:List (Str×Int))(dx:Addr)(h:Heap):Prop:=∃ mA,h.Ns1 dx mA/\PySem.Within mA (fs.map (·.1))/\∀ f,RelO ((fs.lookup f).map V.int) (mA f)
def XD(H:Hp)(dx:Addr)(fs:List (Str×Int)):Prop:=H dx=some (.ext (G5 fs dx))
def Y6(C:Addr)(dx:Option Addr)(a:Addr)(h:Heap):Prop:=∃ o vs,h.get? a=some o/\o.cls = .ref C/\o.dict=dx/\o.data = .fields vs
def XQ(K:KP)(α:List Addr)(H:Hp)(dx:Option Addr)(fs:List (Str×Int)):Prop:=(dx=none/\fs=[])\/∃ d,dx=some d/\VE K α H d (.ext (G5 fs d))
theorem XQ.map{K K':KP}{α α':List Addr}{H H':Hp}{dx:Option Addr}{fs:List (Str×Int)}(hE:∀ a o,VE K α H a o->VE K' α' H' a o)(h:XQ K α H dx fs):XQ K' α' H' dx fs:=h.imp id fun ⟨d,e,v⟩=>⟨d,e,hE _ _ v⟩
theorem VT.sq{K:KP}{α:List Addr}{H:Hp}{a:Addr}{us:List V}(h:VT K α H a us):SqT K.K H a us:=.inl (.inl h.2.2)
theorem VS.sq{K:KP}{α:List Addr}{H:Hp}{a:Addr}{us:List V}(h:VS K α H a us):SqL K.K H a us:=by
 rcases h with ⟨_,_,h⟩ | h
 ·exact .inl h
 ·exact .inr h
theorem VL.sq{K:KP}{α:List Addr}{H:Hp}{a:Addr}{us:List V}(h:VL K α H a us):SqL K.K H a us:=SqL.of h.2.2
mutual
inductive RelD(K:KP)(α:List Addr)(H:Hp):D->V->Prop
 |non:RelD K α H .non .non
 |bl (b:Bool):RelD K α H (.bl b) (.bl b)
 |int (i:Int):RelD K α H (.int i) (.int i)
 |str (x:Str):RelD K α H (.str x) (.str x)
 |tup {a:Addr} {us:List V} {ds:List D}:VT K α H a us->RelDs K α H ds us->RelD K α H (.tup ds) (.ref a)
 |lst {a:Addr} {us:List V} {ds:List D}:VL K α H a us->RelDs K α H ds us->RelD K α H (.lst ds) (.ref a)
 |scr {a:Addr} {us:List V} {ds:List D}:VS K α H a us->RelDs K α H ds us->RelD K α H (.scr ds) (.ref a)
 |ref {i:Nat} {a:Addr}:α[i]?=some a->RelD K α H (.ref i) (.ref a)
 |exc {a C:Addr} {dx:Option Addr} {cn:Str} {fs:List (Str×Int)}:PySem.W.nsIn K.K mainGlobals cn=some (some (.ref C))->VE K α H a (.ext (Y6 C dx a))->XQ K α H dx fs->RelD K α H (.exc cn fs) (.ref a)
inductive RelDs(K:KP)(α:List Addr)(H:Hp):List D->List V->Prop
 |nil:RelDs K α H [] []
 |cons {d:D} {u:V} {ds:List D} {us:List V}:RelD K α H d u->RelDs K α H ds us->RelDs K α H (d :: ds) (u :: us)
end
theorem RelD.map{K K':KP}{α α':List Addr}{H H':Hp}(hK:K'.K=K.K)(hT:∀ a us,VT K α H a us->VT K' α' H' a us)(hL:∀ a us,VL K α H a us->VL K' α' H' a us)(hS:∀ a us,VS K α H a us->VS K' α' H' a us)(hE:∀ a o,VE K α H a o->VE K' α' H' a o)
  (hR:∀ (i:Nat) (a:Addr),α[i]?=some a->α'[i]?=some a) {d:D} {v:V} (r:RelD K α H d v):RelD K' α' H' d v :=
 RelD.rec (motive_1:=fun d v _=>RelD K' α' H' d v) (motive_2:=fun ds us _=>RelDs K' α' H' ds us) .non .bl .int .str (fun t _ r=>.tup (hT _ _ t) r) (fun t _ r=>.lst (hL _ _ t) r) (fun t _ r=>.scr (hS _ _ t) r) (fun h=>.ref (hR _ _ h)) (fun n t r=>.exc (by rw [hK];exact n) (hE _ _ t) (r.map hE)) .nil (fun _ _ r t=>.cons r t) r
theorem RelDs.map{K K':KP}{α α':List Addr}{H H':Hp}(hK:K'.K=K.K)(hT:∀ a us,VT K α H a us->VT K' α' H' a us)(hL:∀ a us,VL K α H a us->VL K' α' H' a us)(hS:∀ a us,VS K α H a us->VS K' α' H' a us)(hE:∀ a o,VE K α H a o->VE K' α' H' a o)
  (hR:∀ (i:Nat) (a:Addr),α[i]?=some a->α'[i]?=some a) {ds:List D} {us:List V} (r:RelDs K α H ds us):RelDs K' α' H' ds us:=by
 induction ds generalizing us with
 |nil=>cases r;exact .nil
 |cons d ds ih=>cases r with | cons h t=>exact .cons (h.map hK hT hL hS hE hR) (ih t)
structure Ext(α:List Addr)(H:Hp)(α':List Addr)(H':Hp):Prop where
 pre:∃ β,α'=α ++ β/\∀ p ∈ β,H p=none
 keep:∀ b o,H b=some o->b ∉ α->H' b=some o
 dom:∀ b,H' b=none->H b=none
theorem Ext.refl(α:List Addr)(H:Hp):Ext α H α H:=⟨⟨[],by simp,fun p h=>nomatch h⟩,fun _ _ h _=>h,fun _ h=>h⟩
theorem Ext.out{α α':List Addr}{H H':Hp}(e:Ext α H α' H'){a:Addr}{o:HO}(h:a ∉ α)(ho:H a=some o):a ∉ α':=by
 obtain ⟨⟨β,rfl,hb⟩,_⟩:=e;intro z
 rcases List.mem_append.mp z with z | z
 ·exact h z
 ·rw [hb a z] at ho;cases ho
theorem Ext.trans{α α' α'':List Addr}{H H' H'':Hp}(e:Ext α H α' H')(f:Ext α' H' α'' H''):Ext α H α'' H'':=by
 refine ⟨?_,fun b o h n=>f.keep b o (e.keep b o h n) (e.out n h),fun b h=>e.dom b (f.dom b h)⟩;obtain ⟨⟨β,rfl,hb⟩,k,d⟩:=e;obtain ⟨⟨γ,rfl,hc⟩,_⟩:=f;refine ⟨β ++ γ,by simp,fun p hp=>?_⟩
 rcases List.mem_append.mp hp with z | z
 ·exact hb p z
 ·exact d p (hc p z)
theorem Ext.get{α α':List Addr}{H H':Hp}(e:Ext α H α' H'){i:Nat}{a:Addr}(h:α[i]?=some a):α'[i]?=some a:=by
 obtain ⟨⟨β,rfl,_⟩,_⟩:=e;have hi:i < α.length:=(List.getElem?_eq_some_iff.mp h).1;rw [List.getElem?_append_left hi];exact h
theorem Ext.new{α:List Addr}{H:Hp}{p:Addr}{o:HO}(h:H p=none):Ext α H α (upd H p o) :=
 ⟨⟨[],by simp,fun p h=>nomatch h⟩,fun b u e _=>by rw [p9 (F9 e h)];exact e,fun b e=>by
  by_cases z:b=p
  ·subst z;rw [m8] at e;cases e
  ·rw [p9 z] at e;exact e⟩
theorem Ext.write{α:List Addr}{H:Hp}{p:Addr}{o:HO}(h:p ∈ α):Ext α H α (upd H p o) :=
 ⟨⟨[],by simp,fun p h=>nomatch h⟩,fun b u e n=>by rw [p9 (fun (z:b=p)=>n (by rw [z];exact h))];exact e,fun b e=>by
  by_cases z:b=p
  ·subst z;rw [m8] at e;cases e
  ·rw [p9 z] at e;exact e⟩
theorem VT.mono{K:KP}{α α':List Addr}{H H':Hp}(e:Ext α H α' H'){a:Addr}{us:List V}(h:VT K α H a us):VT K α' H' a us:=⟨e.out h.1 h.2.2,h.2.1,e.keep _ _ h.2.2 h.1⟩
theorem VS.mono{K:KP}{α α':List Addr}{H H':Hp}(e:Ext α H α' H'){a:Addr}{us:List V}(h:VS K α H a us):VS K α' H' a us:=by
 rcases h with ⟨n,m,h | ⟨o,h⟩⟩ | h
 ·exact .inl ⟨e.out n h,m,.inl (e.keep _ _ h n)⟩
 ·exact .inl ⟨e.out n h,m,.inr ⟨o,e.keep _ _ h n⟩⟩
 ·exact .inr h
theorem VL.mono{K:KP}{α α':List Addr}{H H':Hp}(e:Ext α H α' H'){a:Addr}{us:List V}(h:VL K α H a us):VL K α' H' a us:=⟨e.out h.1 h.2.2,h.2.1,e.keep _ _ h.2.2 h.1⟩
theorem VE.mono{K:KP}{α α':List Addr}{H H':Hp}(e:Ext α H α' H'){a:Addr}{u:HO}(h:VE K α H a u):VE K α' H' a u:=⟨e.out h.1 h.2.2,h.2.1,e.keep _ _ h.2.2 h.1⟩
theorem RelD.mono{K:KP}{α α':List Addr}{H H':Hp}(e:Ext α H α' H'){d:D}{v:V}(r:RelD K α H d v):RelD K α' H' d v:=r.map rfl (fun _ _ t=>t.mono e) (fun _ _ t=>t.mono e) (fun _ _ t=>t.mono e) (fun _ _ t=>t.mono e) (fun _ _ h=>e.get h)
theorem RelDs.mono{K:KP}{α α':List Addr}{H H':Hp}(e:Ext α H α' H'){ds:List D}{us:List V}(r:RelDs K α H ds us):RelDs K α' H' ds us:=r.map rfl (fun _ _ t=>t.mono e) (fun _ _ t=>t.mono e) (fun _ _ t=>t.mono e) (fun _ _ t=>t.mono e) (fun _ _ h=>e.get h)
section
variable {K:KP} {α α':List Addr} {H H':Hp}
theorem RelDs.length:∀ {ds:List D} {us:List V},RelDs K α H ds us->ds.length=us.length
 |_,_,.nil=>rfl
 |_,_,.cons _ t=>by rw [List.length_cons,List.length_cons,RelDs.length t]
theorem RelDs.get:∀ {ds:List D} {us:List V} {i:Nat} {d:D},RelDs K α H ds us->ds[i]?=some d->∃ u,us[i]?=some u/\RelD K α H d u
 |_,_,_,_,.nil,e=>by simp at e
 |_,_,0,_,.cons r _,e=>by simp at e;subst e;exact ⟨_,rfl,r⟩
 |_,_,i + 1,d,.cons _ t,e=>by
  obtain ⟨u,h1,h2⟩:=RelDs.get (i:=i) (d:=d) t (by simpa using e);exact ⟨u,by simpa using h1,h2⟩
theorem RelDs.append:∀ {ds es:List D} {us ws:List V},RelDs K α H ds us->RelDs K α H es ws->RelDs K α H (ds ++ es) (us ++ ws)
 |_,_,_,_,.nil,s=>s
 |_,_,_,_,.cons r t,s=>.cons r (RelDs.append t s)
theorem RelDs.take:∀ {ds:List D} {us:List V} (n:Nat),RelDs K α H ds us->RelDs K α H (ds.take n) (us.take n)
 |_,_,0,_=>.nil
 |_,_,_ + 1,.nil=>.nil
 |_,_,n + 1,.cons r t=>.cons r (RelDs.take n t)
theorem RelDs.drop:∀ {ds:List D} {us:List V} (n:Nat),RelDs K α H ds us->RelDs K α H (ds.drop n) (us.drop n)
 |_,_,0,r=>r
 |_,_,_ + 1,.nil=>.nil
 |_,_,n + 1,.cons _ t=>RelDs.drop n t
theorem RelDs.set{d:D}{u:V}(r:RelD K α H d u):∀ {ds:List D} {us:List V} (i:Nat),RelDs K α H ds us->RelDs K α H (ds.set i d) (us.set i u)
 |_,_,_,.nil=>.nil
 |_,_,0,.cons _ t=>.cons r t
 |_,_,i + 1,.cons q t=>.cons q (RelDs.set r i t)
theorem RelDs.rev:∀ {ds:List D} {us:List V},RelDs K α H ds us->RelDs K α H ds.reverse us.reverse
 |_,_,.nil=>.nil
 |_,_,.cons r t=>by rw [List.reverse_cons,List.reverse_cons];exact (RelDs.rev t).append (.cons r .nil)
theorem RelDs.dropLast{ds:List D}{us:List V}(r:RelDs K α H ds us):RelDs K α H ds.dropLast us.dropLast:=by
 rw [List.dropLast_eq_take,List.dropLast_eq_take,r.length];exact r.take _
theorem RelDs.snoc{ds:List D}{us:List V}{d:D}{u:V}(r:RelDs K α H ds us)(h:RelD K α H d u):RelDs K α H (ds ++ [d]) (us ++ [u]):=r.append (.cons h .nil)
theorem RelDs.ints:∀ ns:List Int,RelDs K α H (ns.map D.int) (ns.map V.int)
 |[]=>.nil
 |n :: r=>.cons (.int n) (RelDs.ints r)
theorem RelDs.inv1{d:D}{us:List V}(h:RelDs K α H [d] us):∃ u,us=[u]/\RelD K α H d u:=by
 cases h with
 |cons r t=>cases t;exact ⟨_,rfl,r⟩
theorem RelDs.inv2{d e:D}{us:List V}(h:RelDs K α H [d,e] us):∃ u v,us=[u,v]/\RelD K α H d u/\RelD K α H e v:=by
 cases h with
 |cons r t =>
  obtain ⟨v,rfl,q⟩:=t.inv1;exact ⟨_,_,rfl,r,q⟩
end
inductive RelKV(K:KP)(α:List Addr)(H:Hp){κ:Type}:List (κ×D)->List (κ×V)->Prop
 |nil:RelKV K α H [] []
 |cons {k:κ} {d:D} {u:V} {ds:List (κ×D)} {us:List (κ×V)}:RelD K α H d u->RelKV K α H ds us->RelKV K α H ((k,d) :: ds) ((k,u) :: us)
theorem RelKV.mono{K:KP}{α α':List Addr}{H H':Hp}{κ:Type}(e:Ext α H α' H'){ds:List (κ×D)}{us:List (κ×V)}(r:RelKV K α H ds us):RelKV K α' H' ds us:=by
 induction r with
 |nil=>exact .nil
 |cons h t ih=>exact .cons (h.mono e) ih
def b8r:Option Obj->HO->HO
 |none,u=>u
 |some o,u=>.frz o u
inductive RelO'(K:KP)(α:List Addr)(H:Hp)(p:Addr):O->Prop
 |lst {xs:List D} {us:List V}:H p=some (.lst us)->RelDs K α H xs us->RelO' K α H p (.lst xs)
 |dT {z:Option Obj} {kvs:List (List Key×D)} {us:List (List Key×V)}:H p=some (b8r z (.dT us))->RelKV K α H kvs us->RelO' K α H p (.dT z kvs)
 |dK {kvs:List (Key×D)} {us:List (Key×V)}:H p=some (.dK us)->RelKV K α H kvs us->RelO' K α H p (.dK kvs)
 |ins {C dx:Addr} {cn:Str} {fs:List (Str×D)} {us:List (Str×V)}:PySem.W.nsIn K.K mainGlobals cn=some (some (.ref C))->H p=some (.ins C dx us)->RelKV K α H fs us->RelO' K α H p (.ins cn fs)
def NoT(o:Option HO):Prop:=o ≠ none/\∀ us,o ≠ some (.tup us)
structure HRel(K:KP)(α:List Addr)(H:Hp)(h:List O):Prop where
 len:α.length=h.length
 nd:α.Nodup
 dis:∀ p ∈ K.π,p ∉ α/\NoT (H p)
 obj:∀ (i:Nat) (o:O),h[i]?=some o->∃ p,α[i]?=some p/\RelO' K α H p o
theorem NoT.ext{α α':List Addr}{H H':Hp}{p:Addr}(h:NoT (H p))(e:Ext α H α' H')(n:p ∉ α):NoT (H' p):=by
 cases q:H p with
 |none=>exact absurd q h.1
 |some o =>
  rw [e.keep p o q n];rw [q] at h;exact h
theorem RelO'.mono{K:KP}{α α':List Addr}{H H':Hp}(e:Ext α H α' H'){p:Addr}{o:O}(r:RelO' K α H p o)(k:H' p=H p):RelO' K α' H' p o:=by
 cases r with
 |lst h t=>exact .lst (k.trans h) (t.mono e)
 |dT h t=>exact .dT (k.trans h) (t.mono e)
 |dK h t=>exact .dK (k.trans h) (t.mono e)
 |ins n h t=>exact .ins n (k.trans h) (t.mono e)
section
variable {K:KP} {α α':List Addr} {H H':Hp} {h:List O}
theorem HRel.some_(R:HRel K α H h){p:Addr}(hp:p ∈ α):∃ o,H p=some o:=by
 obtain ⟨i,hi,rfl⟩:=List.getElem_of_mem hp;have hh:i < h.length:=by rw [<- R.len];exact hi
 obtain ⟨q,e,r⟩:=R.obj i h[i] (List.getElem?_eq_getElem hh);rw [List.getElem?_eq_getElem hi] at e;cases e;generalize h[i]=o at r
 cases r with
 |lst h t=>exact ⟨_,h⟩
 |dT h t=>exact ⟨_,h⟩
 |dK h t=>exact ⟨_,h⟩
 |ins n h t=>exact ⟨_,h⟩
theorem HRel.out(R:HRel K α H h){p:Addr}(hp:H p=none):p ∉ α:=fun z=>by
 obtain ⟨o,e⟩:=R.some_ z;rw [hp] at e;cases e
theorem HRel.same(R:HRel K α H h)(e:Ext α H α H')(k:∀ p ∈ α,H' p=H p):HRel K α H' h :=
 ⟨R.len,R.nd,fun p hp=>⟨(R.dis p hp).1,(R.dis p hp).2.ext e (R.dis p hp).1⟩,fun i o q=>by
  obtain ⟨p,ep,r⟩:=R.obj i o q;exact ⟨p,ep,r.mono e (k p (List.mem_of_getElem? ep))⟩⟩
theorem HRel.new(R:HRel K α H h){p:Addr}{o:HO}(hp:H p=none):HRel K α (upd H p o) h :=
 R.same (Ext.new hp) fun q hq=>p9 fun z=>R.out hp (z ▸ hq)
theorem HRel.write(R:HRel K α H h){p:Addr}{i:Nat}{o:HO}{u:O}(hp:α[i]?=some p)(r:RelO' K α (upd H p o) p u):HRel K α (upd H p o) (h.set i u):=by
 have hm:=List.mem_of_getElem? hp;refine ⟨by simp [R.len],R.nd,fun q hq=>⟨(R.dis q hq).1,(R.dis q hq).2.ext (Ext.write (H:=H) (o:=o) hm) (R.dis q hq).1⟩,fun j v q=>?_⟩
 by_cases e:i=j
 ·subst e
  have hi:i < h.length:=by
   have:=(List.getElem?_eq_some_iff.mp q).1
   simpa using this
  rw [List.getElem?_set_self hi] at q;cases q;exact ⟨p,hp,r⟩
 ·rw [List.getElem?_set_ne e] at q;obtain ⟨a,ea,ra⟩:=R.obj j v q;refine ⟨a,ea,ra.mono (Ext.write hm) (p9 fun z=>e ?_)⟩;subst z;exact (List.getElem?_inj (List.getElem?_eq_some_iff.mp hp).1 R.nd).mp (hp.trans ea.symm)
theorem HRel.lst(R:HRel K α H h){i:Nat}{xs:List D}(e:h[i]?=some (.lst xs)):∃ p us,α[i]?=some p/\H p=some (.lst us)/\RelDs K α H xs us:=by
 obtain ⟨p,ep,r⟩:=R.obj i _ e
 cases r with
 |lst h t=>exact ⟨p,_,ep,h,t⟩
theorem HRel.dT(R:HRel K α H h){i:Nat}{z:Option Obj}{xs:List (List Key×D)}(e:h[i]?=some (.dT z xs)):∃ p us,α[i]?=some p/\H p=some (b8r z (.dT us))/\RelKV K α H xs us:=by
 obtain ⟨p,ep,r⟩:=R.obj i _ e
 cases r with
 |dT h t=>exact ⟨p,_,ep,h,t⟩
theorem HRel.dK(R:HRel K α H h){i:Nat}{xs:List (Key×D)}(e:h[i]?=some (.dK xs)):∃ p us,α[i]?=some p/\H p=some (.dK us)/\RelKV K α H xs us:=by
 obtain ⟨p,ep,r⟩:=R.obj i _ e
 cases r with
 |dK h t=>exact ⟨p,_,ep,h,t⟩
end
theorem HRel.outP{K:KP}{α:List Addr}{H:Hp}{h:List O}(R:HRel K α H h){p:Addr}(hp:H p=none):p ∉ K.π:=fun z=>(R.dis p z).2.1 hp
structure Y8(D:Addr)(H H':Hp):Prop where
 same:∀ b,b ≠ D->H' b=H b
theorem VT.priv{K:KP}{α:List Addr}{H H':Hp}{D a:Addr}{us:List V}(e:Y8 D H H')(hD:D ∈ K.π)(h:VT K α H a us):VT K α H' a us :=
 ⟨h.1,h.2.1,(e.same a fun z=>h.2.1 (z ▸ hD)).trans h.2.2⟩
theorem VS.priv{K:KP}{α:List Addr}{H H':Hp}{D a:Addr}{us:List V}(e:Y8 D H H')(hD:D ∈ K.π)(h:VS K α H a us):VS K α H' a us:=by
 rcases h with ⟨n,m,h⟩ | h
 ·have z:a ≠ D:=fun z=>m (z ▸ hD);refine .inl ⟨n,m,?_⟩;unfold Rd at h ⊢;rw [e.same a z];exact h
 ·exact .inr h
theorem VL.priv{K:KP}{α:List Addr}{H H':Hp}{D a:Addr}{us:List V}(e:Y8 D H H')(hD:D ∈ K.π)(h:VL K α H a us):VL K α H' a us :=
 ⟨h.1,h.2.1,(e.same a fun z=>h.2.1 (z ▸ hD)).trans h.2.2⟩
theorem VE.priv{K:KP}{α:List Addr}{H H':Hp}{D a:Addr}{u:HO}(e:Y8 D H H')(hD:D ∈ K.π)(h:VE K α H a u):VE K α H' a u :=
 ⟨h.1,h.2.1,(e.same a fun z=>h.2.1 (z ▸ hD)).trans h.2.2⟩
theorem RelD.priv{K:KP}{α:List Addr}{H H':Hp}{D':Addr}(e:Y8 D' H H')(hD:D' ∈ K.π){d:D}{v:V}(r:RelD K α H d v):RelD K α H' d v:=r.map rfl (fun _ _ t=>t.priv e hD) (fun _ _ t=>t.priv e hD) (fun _ _ t=>t.priv e hD) (fun _ _ t=>t.priv e hD) (fun _ _ h=>h)
theorem RelDs.priv{K:KP}{α:List Addr}{H H':Hp}{D':Addr}(e:Y8 D' H H')(hD:D' ∈ K.π){ds:List D}{us:List V}(r:RelDs K α H ds us):RelDs K α H' ds us:=r.map rfl (fun _ _ t=>t.priv e hD) (fun _ _ t=>t.priv e hD) (fun _ _ t=>t.priv e hD) (fun _ _ t=>t.priv e hD) (fun _ _ h=>h)
theorem RelKV.priv{K:KP}{α:List Addr}{H H':Hp}{D':Addr}{κ:Type}(e:Y8 D' H H')(hD:D' ∈ K.π){ds:List (κ×D)}{us:List (κ×V)}(r:RelKV K α H ds us):RelKV K α H' ds us:=by
 induction r with
 |nil=>exact .nil
 |cons h t ih=>exact .cons (h.priv e hD) ih
theorem HRel.priv{K:KP}{α:List Addr}{H H':Hp}{h:List O}{D':Addr}(e:Y8 D' H H')(hD:D' ∈ K.π)(hs:NoT (H' D'))(R:HRel K α H h):HRel K α H' h :=
 ⟨R.len,R.nd,fun p hp=>⟨(R.dis p hp).1,by
  by_cases z:p=D'
  ·rw [z];exact hs
  ·rw [e.same p z];exact (R.dis p hp).2⟩,fun i o q=>by
  obtain ⟨p,ep,r⟩:=R.obj i o q;have z:p ≠ D':=fun z=>(R.dis D' hD).1 (z ▸ List.mem_of_getElem? ep);refine ⟨p,ep,?_⟩
  cases r with
  |lst h t=>exact .lst ((e.same p z).trans h) (t.priv e hD)
  |dT h t=>exact .dT ((e.same p z).trans h) (t.priv e hD)
  |dK h t=>exact .dK ((e.same p z).trans h) (t.priv e hD)
  |ins n h t=>exact .ins n ((e.same p z).trans h) (t.priv e hD)⟩
theorem VT.more{K:PySem.W.Frag}{π π':List Addr}{α:List Addr}{H:Hp}{a:Addr}{us:List V}(s:∀ p ∈ π',p ∈ π\/H p=none)(h:VT ⟨K,π⟩ α H a us):VT ⟨K,π'⟩ α H a us :=
 ⟨h.1,fun z=>(s a z).elim h.2.1 (fun w=>by rw [h.2.2] at w;exact nomatch w),h.2.2⟩
theorem VS.more{K:PySem.W.Frag}{π π':List Addr}{α:List Addr}{H:Hp}{a:Addr}{us:List V}(s:∀ p ∈ π',p ∈ π\/H p=none)(h:VS ⟨K,π⟩ α H a us):VS ⟨K,π'⟩ α H a us:=by
 rcases h with ⟨n,m,h⟩ | h
 ·refine .inl ⟨n,fun z=>?_,h⟩
  rcases s a z with z | z
  ·exact m z
  ·rcases h with h | ⟨o,h⟩ <;> rw [z] at h <;> cases h
 ·exact .inr h
theorem VL.more{K:PySem.W.Frag}{π π':List Addr}{α:List Addr}{H:Hp}{a:Addr}{us:List V}(s:∀ p ∈ π',p ∈ π\/H p=none)(h:VL ⟨K,π⟩ α H a us):VL ⟨K,π'⟩ α H a us :=
 ⟨h.1,fun z=>(s a z).elim h.2.1 (fun w=>by rw [h.2.2] at w;exact nomatch w),h.2.2⟩
theorem VE.more{K:PySem.W.Frag}{π π':List Addr}{α:List Addr}{H:Hp}{a:Addr}{u:HO}(s:∀ p ∈ π',p ∈ π\/H p=none)(h:VE ⟨K,π⟩ α H a u):VE ⟨K,π'⟩ α H a u :=
 ⟨h.1,fun z=>(s a z).elim h.2.1 (fun w=>by rw [h.2.2] at w;exact nomatch w),h.2.2⟩
theorem RelD.more{K:PySem.W.Frag}{π π':List Addr}{α:List Addr}{H:Hp}(s:∀ p ∈ π',p ∈ π\/H p=none){d:D}{v:V}(r:RelD ⟨K,π⟩ α H d v):RelD ⟨K,π'⟩ α H d v:=r.map (K:=⟨K,π⟩) (K':=⟨K,π'⟩) rfl (fun _ _ t=>t.more s) (fun _ _ t=>t.more s) (fun _ _ t=>t.more s) (fun _ _ t=>t.more s) (fun _ _ h=>h)
theorem RelDs.more{K:PySem.W.Frag}{π π':List Addr}{α:List Addr}{H:Hp}(s:∀ p ∈ π',p ∈ π\/H p=none){ds:List D}{us:List V}(r:RelDs ⟨K,π⟩ α H ds us):RelDs ⟨K,π'⟩ α H ds us:=r.map (K:=⟨K,π⟩) (K':=⟨K,π'⟩) rfl (fun _ _ t=>t.more s) (fun _ _ t=>t.more s) (fun _ _ t=>t.more s) (fun _ _ t=>t.more s) (fun _ _ h=>h)
theorem RelKV.more{K:PySem.W.Frag}{π π':List Addr}{α:List Addr}{H:Hp}{κ:Type}(s:∀ p ∈ π',p ∈ π\/H p=none){ds:List (κ×D)}{us:List (κ×V)}(r:RelKV ⟨K,π⟩ α H ds us):RelKV ⟨K,π'⟩ α H ds us:=by
 induction r with
 |nil=>exact .nil
 |cons h t ih=>exact .cons (h.more s) ih
theorem HRel.more{K:PySem.W.Frag}{π π':List Addr}{α:List Addr}{H:Hp}{h:List O}(s:∀ p ∈ π',p ∈ π\/H p=none)(d:∀ p ∈ π',p ∉ α/\NoT (H p))(R:HRel ⟨K,π⟩ α H h):HRel ⟨K,π'⟩ α H h :=
 ⟨R.len,R.nd,d,fun i o q=>by
  obtain ⟨p,ep,r⟩:=R.obj i o q;refine ⟨p,ep,?_⟩
  cases r with
  |lst h t=>exact .lst h (t.more s)
  |dT h t=>exact .dT h (t.more s)
  |dK h t=>exact .dK h (t.more s)
  |ins n h t=>exact .ins n h (t.more s)⟩
abbrev Sl:=List (Option D)
abbrev Hh:=List O
abbrev DK:=D->Hh->Prop
abbrev DE:=Sl->Hh->DK->Prop
abbrev DT:=Sl->Hh->(Bool->Hh->Prop)->Prop
abbrev DA:=Sl->Hh->(List D->Hh->Prop)->Prop
abbrev DX:=Str->List (Str×Int)->Hh->Prop
structure K4 where
 nx:Sl->Hh->Prop
 rt:DK
 bk:Sl->Hh->Prop:=fun _ _=>False
 ct:Sl->Hh->Prop:=fun _ _=>False
 ex:DX:=fun _ _ _=>False
abbrev DS:=K4->Sl->Hh->Prop
abbrev DG:=D->Sl->Hh->(Sl->Hh->Prop)->Prop
abbrev DGs:=List D->Sl->Hh->(Sl->Hh->Prop)->Prop
structure RelS(K:KP)(α:List Addr)(H:Hp)(δ:Sl)(σ:St):Prop where
 len:δ.length=σ.length
 get:∀ (i:Nat) (d:D),δ[i]?=some (some d)->∃ v,σ[i]?=some (some v)/\RelD K α H d v
theorem RelS.mono{K:KP}{α α':List Addr}{H H':Hp}{δ:Sl}{σ:St}(e:Ext α H α' H')(r:RelS K α H δ σ):RelS K α' H' δ σ :=
 ⟨r.len,fun i d q=>let ⟨v,h1,h2⟩:=r.get i d q;⟨v,h1,h2.mono e⟩⟩
theorem RelS.set{K:KP}{α:List Addr}{H:Hp}{δ:Sl}{σ:St}{d:D}{v:V}(r:RelS K α H δ σ)(i:Nat)(h:RelD K α H d v):RelS K α H (δ.set i (some d)) (σ.set i (some v)):=by
 refine ⟨by simp [r.len],fun j e q=>?_⟩
 by_cases z:i=j
 ·subst z
  have hi:i < δ.length:=by
   have:=(List.getElem?_eq_some_iff.mp q).1
   simpa using this
  rw [List.getElem?_set_self hi] at q;cases q;exact ⟨v,List.getElem?_set_self (by rw [<- r.len];exact hi),h⟩
 ·rw [List.getElem?_set_ne z] at q;obtain ⟨w,h1,h2⟩:=r.get j e q;exact ⟨w,by rw [List.getElem?_set_ne z];exact h1,h2⟩
inductive LE(K:PySem.W.Frag)(f:DE)(σ:St)(H:Hp)(Q:VK):Prop
 |mk (π:List Addr) (α:List Addr) (δ:Sl) (h:Hh) (Q':DK):HRel ⟨K,π⟩ α H h->RelS ⟨K,π⟩ α H δ σ->f δ h Q'->(∀ d h' α' H' v,Q' d h'->Ext α H α' H'->HRel ⟨K,π⟩ α' H' h'->RelD ⟨K,π⟩ α' H' d v->Q v H')->LE K f σ H Q
inductive LT(K:PySem.W.Frag)(f:DT)(σ:St)(H:Hp)(Q:Bool->Hp->Prop):Prop
 |mk (π:List Addr) (α:List Addr) (δ:Sl) (h:Hh) (Q':Bool->Hh->Prop):HRel ⟨K,π⟩ α H h->RelS ⟨K,π⟩ α H δ σ->f δ h Q'->(∀ b h' α' H',Q' b h'->Ext α H α' H'->HRel ⟨K,π⟩ α' H' h'->Q b H')->LT K f σ H Q
inductive LA(K:PySem.W.Frag)(n:Nat)(f:DA)(σ:St)(H:Hp)(Q:List V->Hp->Prop):Prop
 |mk (π:List Addr) (α:List Addr) (δ:Sl) (h:Hh) (Q':List D->Hh->Prop):HRel ⟨K,π⟩ α H h->RelS ⟨K,π⟩ α H δ σ->f δ h Q'->(∀ ds h' α' H' vs,Q' ds h'->Ext α H α' H'->HRel ⟨K,π⟩ α' H' h'->RelDs ⟨K,π⟩ α' H' ds vs->ds.length=n->Q vs H')->LA K n f σ H Q
structure EndsOk(K:KP)(Ex:XK)(α:List Addr)(H:Hp)(E:K4)(F:M9):Prop where
 nx:∀ δ' h' α' H' σ',E.nx δ' h'->Ext α H α' H'->HRel K α' H' h'->RelS K α' H' δ' σ'->F.nx σ' H'
 rt:∀ d h' α' H' v,E.rt d h'->Ext α H α' H'->HRel K α' H' h'->RelD K α' H' d v->F.rt v H'
 bk:∀ δ' h' α' H' σ',E.bk δ' h'->Ext α H α' H'->HRel K α' H' h'->RelS K α' H' δ' σ'->F.bk σ' H'
 ct:∀ δ' h' α' H' σ',E.ct δ' h'->Ext α H α' H'->HRel K α' H' h'->RelS K α' H' δ' σ'->F.ct σ' H'
 ex:∀ cn fs h' α' H' C dx,E.ex cn fs h'->Ext α H α' H'->HRel K α' H' h'->PySem.W.nsIn K.K mainGlobals cn=some (some (.ref C))->XQ K α' H' dx fs->Ex (.ref C) dx H'
theorem EndsOk.mono{K:KP}{Ex:XK}{α α':List Addr}{H H':Hp}{E:K4}{F:M9}(x:EndsOk K Ex α H E F)(e:Ext α H α' H'):EndsOk K Ex α' H' E F :=
 ⟨fun _ _ _ _ _ a b c d=>x.nx _ _ _ _ _ a (e.trans b) c d,fun _ _ _ _ _ a b c d=>x.rt _ _ _ _ _ a (e.trans b) c d,fun _ _ _ _ _ a b c d=>x.bk _ _ _ _ _ a (e.trans b) c d,fun _ _ _ _ _ a b c d=>x.ct _ _ _ _ _ a (e.trans b) c d,fun _ _ _ _ _ _ _ a b c d=>x.ex _ _ _ _ _ _ _ a (e.trans b) c d⟩
inductive LS(K:PySem.W.Frag)(Ex:XK)(f:DS)(F:M9)(σ:St)(H:Hp):Prop
 |mk (π:List Addr) (α:List Addr) (δ:Sl) (h:Hh) (E:K4):HRel ⟨K,π⟩ α H h->RelS ⟨K,π⟩ α H δ σ->f E δ h->EndsOk ⟨K,π⟩ Ex α H E F->LS K Ex f F σ H
inductive LG(K:PySem.W.Frag)(f:DG)(v:V)(σ:St)(H:Hp)(Q:St->Hp->Prop):Prop
 |mk (π:List Addr) (α:List Addr) (δ:Sl) (h:Hh) (d:D) (Q':Sl->Hh->Prop):HRel ⟨K,π⟩ α H h->RelS ⟨K,π⟩ α H δ σ->RelD ⟨K,π⟩ α H d v->f d δ h Q'->(∀ δ' h' α' H' σ',Q' δ' h'->Ext α H α' H'->HRel ⟨K,π⟩ α' H' h'->RelS ⟨K,π⟩ α' H' δ' σ'->Q σ' H')->LG K f v σ H Q
inductive LGs(K:PySem.W.Frag)(f:DGs)(vs:List V)(σ:St)(H:Hp)(Q:St->Hp->Prop):Prop
 |mk (π:List Addr) (α:List Addr) (δ:Sl) (h:Hh) (ds:List D) (Q':Sl->Hh->Prop):HRel ⟨K,π⟩ α H h->RelS ⟨K,π⟩ α H δ σ->RelDs ⟨K,π⟩ α H ds vs->f ds δ h Q'->(∀ δ' h' α' H' σ',Q' δ' h'->Ext α H α' H'->HRel ⟨K,π⟩ α' H' h'->RelS ⟨K,π⟩ α' H' δ' σ'->Q σ' H')->LGs K f vs σ H Q
theorem HRel.under{K:PySem.W.Frag}{π α:List Addr}{H:Hp}{h:Hh}{p:Addr}{o:HO}(R:HRel ⟨K,π⟩ α H h)(hp:H p=none)(ho:∀ us,o ≠ .tup us:=by intro _ z;cases z):HRel ⟨K,p :: π⟩ α (upd H p o) h:=by
 have s:∀ q ∈ p :: π,q ∈ π\/H q=none:=fun q hq=>by
  rcases List.mem_cons.mp hq with rfl | z
  ·exact .inr hp
  ·exact .inl z
 refine ⟨R.len,R.nd,fun q hq=>?_,fun i ob e=>?_⟩
 ·rcases List.mem_cons.mp hq with rfl | z
  ·exact ⟨R.out hp,by rw [m8];exact ⟨(fun z=>by cases z),fun us z=>ho us (Option.some.inj z)⟩⟩
  ·exact ⟨(R.dis q z).1,(R.dis q z).2.ext (Ext.new (α:=α) hp) (R.dis q z).1⟩
 ·obtain ⟨a,ea,r⟩:=R.obj i ob e;refine ⟨a,ea,?_⟩;have k:upd H p o a=H a:=p9 fun z=>R.out hp (z ▸ List.mem_of_getElem? ea);have e2:Ext α H α (upd H p o):=Ext.new hp
  cases r with
  |lst h t=>exact .lst (k.trans h) ((t.more s).mono e2)
  |dT h t=>exact .dT (k.trans h) ((t.more s).mono e2)
  |dK h t=>exact .dK (k.trans h) ((t.more s).mono e2)
  |ins n h t=>exact .ins n (k.trans h) ((t.more s).mono e2)
theorem HRel.less{K:PySem.W.Frag}{π α:List Addr}{H:Hp}{h:Hh}{p:Addr}(R:HRel ⟨K,p :: π⟩ α H h):HRel ⟨K,π⟩ α H h :=
 R.more (fun q hq=>.inl (List.mem_cons_of_mem _ hq)) fun q hq=>R.dis q (List.mem_cons_of_mem _ hq)
theorem RelS.more{K:PySem.W.Frag}{π π' α:List Addr}{H:Hp}{δ:Sl}{σ:L2.St}(s:∀ p ∈ π',p ∈ π\/H p=none)(S:RelS ⟨K,π⟩ α H δ σ):RelS ⟨K,π'⟩ α H δ σ :=
 ⟨S.len,fun i d q=>let ⟨v,a,b⟩:=S.get i d q;⟨v,a,b.more s⟩⟩
theorem RelS.priv{K:KP}{α:List Addr}{H H':Hp}{δ:Sl}{σ:L2.St}{D':Addr}(e:Y8 D' H H')(hD:D' ∈ K.π)(S:RelS K α H δ σ):RelS K α H' δ σ :=
 ⟨S.len,fun i d q=>let ⟨v,a,b⟩:=S.get i d q;⟨v,a,b.priv e hD⟩⟩
theorem Ext.grow{α α':List Addr}{H H':Hp}{p:Addr}{o:HO}(e:Ext α H α' H')(hp:H p=none):Ext α H α' (upd H' p o) :=
 ⟨e.pre,fun b u q n=>by rw [p9 (F9 q hp)];exact e.keep b u q n,fun b q=>by
  by_cases z:b=p
  ·subst z;exact hp
  ·rw [p9 z] at q;exact e.dom b q⟩
theorem VT.adopt{K:PySem.W.Frag}{π α:List Addr}{H:Hp}{p a:Addr}{us:List V}(h:VT ⟨K,p :: π⟩ α H a us):VT ⟨K,π⟩ (α ++ [p]) H a us :=
 ⟨fun z=>(List.mem_append.mp z).elim h.1 fun z=>h.2.1 (by rw [List.mem_singleton.mp z];exact List.mem_cons_self),fun z=>h.2.1 (List.mem_cons_of_mem _ z),h.2.2⟩
theorem VS.adopt{K:PySem.W.Frag}{π α:List Addr}{H:Hp}{p a:Addr}{us:List V}(h:VS ⟨K,p :: π⟩ α H a us):VS ⟨K,π⟩ (α ++ [p]) H a us:=by
 rcases h with ⟨n,m,h⟩ | h
 ·refine .inl ⟨fun z=>?_,fun z=>m (List.mem_cons_of_mem _ z),h⟩
  rcases List.mem_append.mp z with z | z
  ·exact n z
  ·exact m (by rw [List.mem_singleton.mp z];exact List.mem_cons_self)
 ·exact .inr h
theorem VL.adopt{K:PySem.W.Frag}{π α:List Addr}{H:Hp}{p a:Addr}{us:List V}(h:VL ⟨K,p :: π⟩ α H a us):VL ⟨K,π⟩ (α ++ [p]) H a us :=
 ⟨fun z=>(List.mem_append.mp z).elim h.1 fun z=>h.2.1 (by rw [List.mem_singleton.mp z];exact List.mem_cons_self),fun z=>h.2.1 (List.mem_cons_of_mem _ z),h.2.2⟩
theorem VE.adopt{K:PySem.W.Frag}{π α:List Addr}{H:Hp}{p a:Addr}{u:HO}(h:VE ⟨K,p :: π⟩ α H a u):VE ⟨K,π⟩ (α ++ [p]) H a u :=
 ⟨fun z=>(List.mem_append.mp z).elim h.1 fun z=>h.2.1 (by rw [List.mem_singleton.mp z];exact List.mem_cons_self),fun z=>h.2.1 (List.mem_cons_of_mem _ z),h.2.2⟩
theorem a1F{α:List Addr}{p a:Addr}{i:Nat}(h:α[i]?=some a):(α ++ [p])[i]?=some a:=by
 rw [List.getElem?_append_left (List.getElem?_eq_some_iff.mp h).1];exact h
theorem RelD.adopt{K:PySem.W.Frag}{π α:List Addr}{H:Hp}{p:Addr}{d:D}{v:V}(r:RelD ⟨K,p :: π⟩ α H d v):RelD ⟨K,π⟩ (α ++ [p]) H d v:=r.map (K:=⟨K,p :: π⟩) (K':=⟨K,π⟩) (α':=α ++ [p]) (H':=H) rfl (fun _ _ t=>t.adopt) (fun _ _ t=>t.adopt) (fun _ _ t=>t.adopt) (fun _ _ t=>t.adopt) (fun _ _ h=>a1F h)
theorem RelDs.adopt{K:PySem.W.Frag}{π α:List Addr}{H:Hp}{p:Addr}{ds:List D}{us:List V}(r:RelDs ⟨K,p :: π⟩ α H ds us):RelDs ⟨K,π⟩ (α ++ [p]) H ds us:=r.map (K:=⟨K,p :: π⟩) (K':=⟨K,π⟩) (α':=α ++ [p]) (H':=H) rfl (fun _ _ t=>t.adopt) (fun _ _ t=>t.adopt) (fun _ _ t=>t.adopt) (fun _ _ t=>t.adopt) (fun _ _ h=>a1F h)
theorem RelKV.adopt{K:PySem.W.Frag}{π α:List Addr}{H:Hp}{p:Addr}{κ:Type}{ds:List (κ×D)}{us:List (κ×V)}(r:RelKV ⟨K,p :: π⟩ α H ds us):RelKV ⟨K,π⟩ (α ++ [p]) H ds us:=by
 induction r with
 |nil=>exact .nil
 |cons h t ih=>exact .cons h.adopt ih
theorem HRel.adopt{K:PySem.W.Frag}{π α:List Addr}{H:Hp}{h:Hh}{p:Addr}{u:O}(R:HRel ⟨K,p :: π⟩ α H h)(np:p ∉ π)(r:RelO' ⟨K,π⟩ (α ++ [p]) H p u):HRel ⟨K,π⟩ (α ++ [p]) H (h ++ [u]):=by
 have hp:=R.dis p List.mem_cons_self;refine ⟨by simp [R.len],?_,fun q hq=>⟨fun z=>?_,(R.dis q (List.mem_cons_of_mem _ hq)).2⟩,fun i v q=>?_⟩
 ·rw [List.nodup_append];exact ⟨R.nd,by simp,fun a ha b hb=>by rw [List.mem_singleton.mp hb];exact fun z=>hp.1 (z ▸ ha)⟩
 ·rcases List.mem_append.mp z with z | z
  ·exact (R.dis q (List.mem_cons_of_mem _ hq)).1 z
  ·rw [List.mem_singleton.mp z] at hq;exact np hq
 ·by_cases hi:i < h.length
  ·rw [List.getElem?_append_left hi] at q;obtain ⟨a,ea,ra⟩:=R.obj i v q;refine ⟨a,a1F ea,?_⟩
   cases ra with
   |lst h t=>exact .lst h t.adopt
   |dT h t=>exact .dT h t.adopt
   |dK h t=>exact .dK h t.adopt
   |ins n h t=>exact .ins n h t.adopt
  ·have hi':i=h.length:=by
    have:=(List.getElem?_eq_some_iff.mp q).1
    rw [List.length_append,List.length_singleton] at this;omega
   subst hi';rw [List.getElem?_append_right (Nat.le_refl _)] at q
   simp at q;subst q;exact ⟨p,by rw [List.getElem?_append_right (by rw [R.len];exact Nat.le_refl _),R.len];simp,r⟩
theorem Ext.adopt{α α':List Addr}{H H':Hp}{p:Addr}(e:Ext α H α' H')(hp:H p=none):Ext α H (α' ++ [p]) H':=by
 refine ⟨?_,e.keep,e.dom⟩;obtain ⟨⟨β,rfl,hb⟩,_⟩:=e
 exact ⟨β ++ [p],by simp,fun q hq=>by
  rcases List.mem_append.mp hq with z | z
  ·exact hb q z
  ·rw [List.mem_singleton.mp z];exact hp⟩
section
variable (X:Cx)
def SE(e:Expr)(f:DE):Prop:=PE X e (LE X.K f)
def ST(e:Expr)(f:DT):Prop:=PT X e (LT X.K f)
def SW(e:Expr)(f:DT):Prop:=PW X e (LT X.K f)
def SA(es:List Expr)(n:Nat)(f:DA):Prop:=PA X es (LA X.K n f)
def SS(s:Stmt)(f:DS):Prop:=PS X s (LS X.K X.ex9 f)
def SSs(ss:List Stmt)(f:DS):Prop:=PSs X ss (LS X.K X.ex9 f)
def SG(t:Expr)(f:DG):Prop:=PG X t (LG X.K f)
def SGs(ts:List Expr)(f:DGs):Prop:=PGs X ts (LGs X.K f)
end
section
variable {X:Cx}
theorem PE.imp{e:Expr}{t t':TE}(h:PE X e t)(k:∀ σ H Q,t' σ H Q->t σ H Q):PE X e t':=fun pins s σ H Q I q=>h pins s σ H Q I (k σ H Q q)
theorem PT.imp{e:Expr}{t t':TT}(h:PT X e t)(k:∀ σ H Q,t' σ H Q->t σ H Q):PT X e t':=fun pins s σ H Q I q=>h pins s σ H Q I (k σ H Q q)
theorem PW.imp{e:Expr}{t t':TT}(h:PW X e t)(k:∀ σ H Q,t' σ H Q->t σ H Q):PW X e t':=fun wh pins s σ H Q I q=>h wh pins s σ H Q I (k σ H Q q)
theorem PA.imp{es:List Expr}{t t':TA}(h:PA X es t)(k:∀ σ H Q,t' σ H Q->t σ H Q):PA X es t':=fun pos pins s σ H Q I q=>h pos pins s σ H Q I (k σ H Q q)
theorem PS.imp{e:Stmt}{t t':TS}(h:PS X e t)(k:∀ F σ H,t' F σ H->t F σ H):PS X e t':=fun pins s σ H F I q=>h pins s σ H F I (k F σ H q)
theorem PSs.imp{e:List Stmt}{t t':TS}(h:PSs X e t)(k:∀ F σ H,t' F σ H->t F σ H):PSs X e t':=fun pins s σ H F I q=>h pins s σ H F I (k F σ H q)
theorem PG.imp{e:Expr}{t t':TG}(h:PG X e t)(k:∀ v σ H Q,t' v σ H Q->t v σ H Q):PG X e t':=fun pins s σ H v u Q I r q=>h pins s σ H v u Q I r (k v σ H Q q)
theorem PGs.imp{e:List Expr}{t t':TGs}(h:PGs X e t)(k:∀ v σ H Q,t' v σ H Q->t v σ H Q):PGs X e t':=fun pins s σ H v u Q I r q=>h pins s σ H v u Q I r (k v σ H Q q)
end
end DL
namespace DL
open PySem PySem.Spec L2
def b7(i:Nat):DE:=fun δ h Q=>match δ[i]? with | some (some d)=>Q d h | _=>False
def dC(d:D):DE:=fun _ h Q=>Q d h
abbrev P1:=D->Hh->DK->Prop
abbrev P2:=D->D->Hh->DK->Prop
abbrev PN:=List D->Hh->DK->Prop
def dUn(p:P1)(a:DE):DE:=fun δ h Q=>a δ h fun x h1=>p x h1 Q
def dOp(p:P2)(a b:DE):DE:=fun δ h Q=>a δ h fun x h1=>b δ h1 fun y h2=>p x y h2 Q
inductive r1(K:PySem.W.Frag)(p:P1)(x:V)(H:Hp)(Q:VK):Prop
 |mk (π:List Addr) (α:List Addr) (h:Hh) (d:D) (Q':DK):HRel ⟨K,π⟩ α H h->RelD ⟨K,π⟩ α H d x->p d h Q'->(∀ d h' α' H' v,Q' d h'->Ext α H α' H'->HRel ⟨K,π⟩ α' H' h'->RelD ⟨K,π⟩ α' H' d v->Q v H')->r1 K p x H Q
inductive r2(K:PySem.W.Frag)(p:P2)(x y:V)(H:Hp)(Q:VK):Prop
 |mk (π:List Addr) (α:List Addr) (h:Hh) (d e:D) (Q':DK):HRel ⟨K,π⟩ α H h->RelD ⟨K,π⟩ α H d x->RelD ⟨K,π⟩ α H e y->p d e h Q'->(∀ d h' α' H' v,Q' d h'->Ext α H α' H'->HRel ⟨K,π⟩ α' H' h'->RelD ⟨K,π⟩ α' H' d v->Q v H')->r2 K p x y H Q
inductive rN(K:PySem.W.Frag)(p:PN)(xs:List V)(H:Hp)(Q:VK):Prop
 |mk (π:List Addr) (α:List Addr) (h:Hh) (ds:List D) (Q':DK):HRel ⟨K,π⟩ α H h->RelDs ⟨K,π⟩ α H ds xs->p ds h Q'->(∀ d h' α' H' v,Q' d h'->Ext α H α' H'->HRel ⟨K,π⟩ α' H' h'->RelD ⟨K,π⟩ α' H' d v->Q v H')->rN K p xs H Q
section
variable {K:PySem.W.Frag} {σ:L2.St} {H:Hp} {Q:VK}
theorem b1A{p:P1}{fa:DE}(g:LE K (dUn p fa) σ H Q):LE K fa σ H fun x H1=>r1 K p x H1 Q:=by
 obtain ⟨π,α,δ,h,Q',R,S,f,k⟩:=g;exact ⟨π,α,δ,h,_,R,S,f,fun x h1 α1 H1 v1 f1 e1 R1 q1=>⟨π,α1,h1,x,Q',R1,q1,f1,fun d h' α' H' v a b c d'=>k d h' α' H' v a (e1.trans b) c d'⟩⟩
theorem Z6{p:P2}{fa fb:DE}(g:LE K (dOp p fa fb) σ H Q):LE K fa σ H fun x H1=>LE K fb σ H1 fun y H2=>r2 K p x y H2 Q:=by
 obtain ⟨π,α,δ,h,Q',R,S,f,k⟩:=g;refine ⟨π,α,δ,h,_,R,S,f,fun x h1 α1 H1 v1 f1 e1 R1 q1=>?_⟩;refine ⟨π,α1,δ,h1,_,R1,S.mono e1,f1,fun y h2 α2 H2 v2 f2 e2 R2 q2=>?_⟩;exact ⟨π,α2,h2,x,y,Q',R2,q1.mono e2,q2,f2,fun d h' α' H' v a b c d'=>k d h' α' H' v a (e1.trans (e2.trans b)) c d'⟩
end
theorem OpR.imp{X:Cx}{f:Value->Value->Sem Value}{r r':R2}(h:OpR X f r)(k:∀ x y H Q,r' x y H Q->r x y H Q):OpR X f r':=fun pins s σ H x y v u Q I rx ry q=>h pins s σ H x y v u Q I rx ry (k x y H Q q)
theorem UnR.imp{X:Cx}{f:Value->Sem Value}{r r':V->Hp->VK->Prop}(h:UnR X f r)(k:∀ x H Q,r' x H Q->r x H Q):UnR X f r':=fun pins s σ H x v Q I rx q=>h pins s σ H x v Q I rx (k x H Q q)
theorem IxR.imp{X:Cx}{r r':R2}(h:IxR X r)(k:∀ x y H Q,r' x y H Q->r x y H Q):IxR X r':=fun va sl pins s σ H x y v u Q I rx ry q=>h va sl pins s σ H x y v u Q I rx ry (k x y H Q q)
theorem CallR.imp{X:Cx}{f:Value}{r r':List V->Hp->VK->Prop}(h:CallR X f r)(k:∀ x H Q,r' x H Q->r x H Q):CallR X f r':=fun pins s σ H xs us Q I rx q=>h pins s σ H xs us Q I rx (k xs H Q q)
def w6(h:Hh):D->Option (List D)
 |.lst xs=>some xs
 |.scr xs=>some xs
 |.ref i=>match h[i]? with | some (.lst xs)=>some xs | _=>none
 |_=>none
section
variable {K:KP} {α:List Addr} {H:Hp} {h:Hh}
theorem Z8(R:HRel K α H h):∀ {d:D} {v:V} {xs:List D},RelD K α H d v->w6 h d=some xs->∃ p us,v = .ref p/\SqL K.K H p us/\RelDs K α H xs us
 |_,_,_,.lst t r,e=>by cases e;exact ⟨_,_,rfl,t.sq,r⟩
 |_,_,_,.scr t r,e=>by cases e;exact ⟨_,_,rfl,t.sq,r⟩
 |_,_,xs,.ref (i:=i) hp,e=>by
  have e:(match h[i]? with | some (.lst xs)=>some xs | _=>none)=some xs:=e
  cases q:h[i]? with
  |none=>rw [q] at e;cases e
  |some o =>
   rw [q] at e
   cases o with
   |lst ys =>
    cases e;obtain ⟨p,us,e1,e2,e3⟩:=R.lst q;rw [hp] at e1;cases e1;exact ⟨_,us,rfl,SqL.of e2,e3⟩
   |_=>cases e
 |_,_,_,.non,e=>nomatch e
 |_,_,_,.bl _,e=>nomatch e
 |_,_,_,.int _,e=>nomatch e
 |_,_,_,.str _,e=>nomatch e
 |_,_,_,.tup _ _,e=>nomatch e
theorem b6w{d:List D}{v:V}(r:RelD K α H (.tup d) v):∃ p us,v = .ref p/\SqT K.K H p us/\RelDs K α H d us:=by
 cases r with
 |tup t r=>exact ⟨_,_,rfl,t.sq,r⟩
end
section
variable {X:Cx} {a b c e:Expr} {fa fb fc:DE} {pos:Pos}
theorem sv(i:Nat){x:Str}{pos:Pos}(hN:X.N[i]?=some x:=by rfl)(hv:Vis X.env.scope x:=by trivial)(hd:(x == ("__debug__":Str))=false:=by decide)
  (hcd:(x == ("__classdict__":Str))=false:=by decide):SE X (.Name x pos) (b7 i):=PE.imp (a6j hN hv hd hcd) fun σ H Q ⟨π,α,δ,h,Q',R,S,f,k⟩=>by
 unfold b7 at f
 split at f
 ·rename_i d e;obtain ⟨v,h1,h2⟩:=S.get i d e;exact ⟨v,h1,k d h α H v f (Ext.refl ..) R h2⟩
 ·exact f.elim
theorem Z4{v:V}{d:D}(r:∀ π α H,RelD ⟨X.K,π⟩ α H d v)(h:PE X e (tC v)):SE X e (dC d):=PE.imp h fun σ H Q ⟨π,α,δ,h,Q',R,S,f,k⟩=>k d h α H v f (Ext.refl ..) R (r π α H)
theorem a9{i j pos}:SE X (.Constant (.int i) j pos) (dC (.int i)):=Z4 (fun _ _ _=>.int i) b3O
theorem Y2{i j pos}:SE X (.Constant (.bool i) j pos) (dC (.bl i)):=Z4 (fun _ _ _=>.bl i) b7M
theorem l7{j pos}:SE X (.Constant .none j pos) (dC .non):=Z4 (fun _ _ _=>.non) b5C
theorem f8{i j pos}:SE X (.Constant (.str i) j pos) (dC (.str i)):=Z4 (fun _ _ _=>.str i) a0j
theorem g8{op:Operator}{p:P2}(ho:OpR X (binaryOp op) (r2 X.K p))(ha:SE X a fa)(hb:SE X b fb):SE X (.BinOp a op b pos) (dOp p fa fb):=PE.imp (b8E ho ha hb) fun _ _ _ g=>Z6 g
theorem a0v{op:UnaryOp}{p:P1}(ho:UnR X (unaryOp op) (r1 X.K p))(ha:SE X a fa):SE X (.UnaryOp op a pos) (dUn p fa):=PE.imp (b6S ho ha) fun _ _ _ g=>b1A g
theorem c7{p:P2}(ho:IxR X (r2 X.K p))(ha:SE X a fa)(hb:SE X b fb)(hs:a4c b:=by exact fun _ _=>rfl):SE X (.Subscript a b pos) (dOp p fa fb):=PE.imp (b7d ho ha hb hs) fun _ _ _ g=>Z6 g
theorem E5{op:CmpOp}{p:P2}(ho:OpR X (compareOp op) (r2 X.K p))(ha:SE X a fa)(hb:SE X b fb)(hm:behindInMarks op b=false:=by exact a8h _):SE X (.Compare a [op] [b] pos) (dOp p fa fb):=PE.imp (b1H ho ha hb hm) fun _ _ _ g=>Z6 g
def k7(f:DE):DT:=fun δ h Q=>f δ h fun d h'=>match d with | .bl b=>Q b h' | _=>False
theorem a2P{K:PySem.W.Frag}{f:DE}{σ:L2.St}{H:Hp}{Q:Bool->Hp->Prop}(g:LT K (k7 f) σ H Q):LE K f σ H fun x H'=>∃ k,x = .bl k/\Q k H':=by
 obtain ⟨π,α,δ,h,Q',R,S,f,k⟩:=g;refine ⟨π,α,δ,h,_,R,S,f,fun d h1 α1 H1 v1 f1 e1 R1 q1=>?_⟩
 cases q1 with
 |bl b=>exact ⟨b,rfl,k b h1 α1 H1 f1 e1 R1⟩
 |_=>exact f1.elim
theorem e7{op:CmpOp}{p:P2}(ho:OpR X (compareOp op) (r2 X.K p))(ha:SE X a fa)(hb:SE X b fb)(hm:behindInMarks op b=false:=by exact a8h _):ST X (.Compare a [op] [b] pos) (k7 (dOp p fa fb)):=PT.imp (b0W ho ha hb hm) fun _ _ _ g=>by
 obtain ⟨π,α,δ,h,Q',R,S,f,k⟩:=a2P g;exact Z6 (Q:=fun x H'=>∃ k,x = .bl k/\_) ⟨π,α,δ,h,Q',R,S,f,k⟩
def D6(p q:P2)(a b c:DE):DE:=fun δ h Q=>a δ h fun x h1=>b δ h1 fun y h2=>p x y h2 fun z h3=>match z with
 |.bl k=>if k=true then c δ h3 fun w h4=>q y w h4 Q else Q (.bl false) h3
 |_=>False
theorem a0c{K:PySem.W.Frag}{p q:P2}{σ:L2.St}{H:Hp}{Q:VK}(g:LE K (D6 p q fa fb fc) σ H Q):a3x (r2 K p) (r2 K q) (LE K fa) (LE K fb) (LE K fc) σ H Q:=by
 obtain ⟨π,α,δ,h,Q',R,S,f,k⟩:=g;refine ⟨π,α,δ,h,_,R,S,f,fun x h1 α1 H1 v1 f1 e1 R1 q1=>?_⟩;refine ⟨π,α1,δ,h1,_,R1,S.mono e1,f1,fun y h2 α2 H2 v2 f2 e2 R2 q2=>?_⟩;refine ⟨π,α2,h2,x,y,_,R2,q1.mono e2,q2,f2,fun z h3 α3 H3 v3 f3 e3 R3 q3=>?_⟩
 cases q3 with
 |bl b =>
  refine ⟨b,rfl,?_⟩
  cases b with
  |false=>exact T7 (k _ _ _ _ _ (by simpa using f3) (e1.trans (e2.trans e3)) R3 (.bl false))
  |true =>
   have f3:fc δ h3 fun w h4=>q y w h4 Q':=by simpa using f3
   refine Y9 ⟨π,α3,δ,h3,_,R3,S.mono (e1.trans (e2.trans e3)),f3,fun w h4 α4 H4 v4 f4 e4 R4 q4=>?_⟩;exact ⟨π,α4,h4,y,w,Q',R4,q2.mono (e3.trans e4),q4,f4,fun d h' α' H' v a b c d'=>k d h' α' H' v a (e1.trans (e2.trans (e3.trans (e4.trans b)))) c d'⟩
 |_=>exact f3.elim
theorem a7j{op op':CmpOp}{p q:P2}(ho:OpR X (compareOp op) (r2 X.K p))(ho':OpR X (compareOp op') (r2 X.K q))(ha:SE X a fa)(hb:SE X b fb)(hc:SE X c fc)
  (hm:lastMarks [op,op'] [b,c]=false:=by with_unfolding_all rfl):SE X (.Compare a [op,op'] [b,c] pos) (D6 p q fa fb fc):=PE.imp (a8y ho ho' ha hb hc hm) fun _ _ _ g=>a0c g
theorem B3{op op':CmpOp}{p q:P2}(ho:OpR X (compareOp op) (r2 X.K p))(ho':OpR X (compareOp op') (r2 X.K q))(ha:SE X a fa)(hb:SE X b fb)(hc:SE X c fc)
  (hm:lastMarks [op,op'] [b,c]=false:=by with_unfolding_all rfl):ST X (.Compare a [op,op'] [b,c] pos) (k7 (D6 p q fa fb fc)):=PT.imp (a8Y ho ho' ha hb hc hm) fun _ _ _ g=>by
 obtain ⟨π,α,δ,h,Q',R,S,f,k⟩:=a2P g;exact a0c (Q:=fun x H'=>∃ k,x = .bl k/\_) ⟨π,α,δ,h,Q',R,S,f,k⟩
def trD(h:Hh):D->Option Bool
 |.non=>some false
 |.bl b=>some b
 |.int i=>some (i != 0)
 |.str x=>if x.length <= 16777216 then some ((x.length:Int) != 0) else none
 |.tup xs=>some (!xs.isEmpty)
 |.lst xs=>some (!xs.isEmpty)
 |.scr xs=>some (!xs.isEmpty)
 |.ref i=>match h[i]? with | some (.lst xs)=>some (!xs.isEmpty) | _=>none
 |.exc _ _=>none
def dTr(f:DE):DT:=fun δ h Q=>f δ h fun d h'=>match trD h' d with | some b=>Q b h' | none=>False
theorem K9{K:KP}{α:List Addr}{H:Hp}{ds:List D}{us:List V}(r:RelDs K α H ds us):ds.isEmpty=us.isEmpty:=by cases r <;> rfl
theorem b8p{K:KP}{α:List Addr}{H:Hp}{h:Hh}(R:HRel K α H h){d:D}{v:V}{k:Bool}(r:RelD K α H d v)(e:trD h d=some k):b3A K.K v H k:=by
 cases r with
 |non=>cases e;exact rfl
 |bl b=>cases e;exact rfl
 |int i=>cases e;exact rfl
 |str x =>
  have e:(if x.length <= 16777216 then some ((x.length:Int) != 0) else none)=some k:=e
  split at e
  ·rename_i hl;cases e;exact ⟨by rw [sizeLine_eq];exact hl,rfl⟩
  ·cases e
 |tup t r=>cases e;exact .inr (.inl ⟨_,t.sq,by rw [K9 r]⟩)
 |lst t r=>cases e;exact .inl ⟨_,t.sq,by rw [K9 r]⟩
 |scr t r=>cases e;exact .inl ⟨_,t.sq,by rw [K9 r]⟩
 |exc _ _ _=>cases e
 |@ref i a hp =>
  have e:(match h[i]? with | some (.lst xs)=>some (!xs.isEmpty) | _=>none)=some k:=e
  cases q:h[i]? with
  |none=>rw [q] at e;cases e
  |some o =>
   rw [q] at e
   cases o with
   |lst ys =>
    cases e;obtain ⟨p,us,e1,e2,e3⟩:=R.lst q;rw [hp] at e1;cases e1;exact .inl ⟨us,SqL.of e2,by rw [K9 e3]⟩
   |_=>cases e
theorem o8(ha:SE X a fa)(he:∀ whole,isTrue a X.env whole=(do let v <- whole;standAt a.pos;holding [v] (truthy v)):=by intro _;rfl):ST X a (dTr fa):=PT.imp (a8C ha he) fun σ H Q zz0=>by
 obtain ⟨π,α,δ,h,Q',R,S,f,k⟩:=zz0;refine ⟨π,α,δ,h,_,R,S,f,fun d h1 α1 H1 v1 f1 e1 R1 q1=>?_⟩
 cases q:trD h1 d with
 |none=>rw [q] at f1;exact f1.elim
 |some b=>rw [q] at f1;exact ⟨b,b8p R1 q1 q,k b h1 α1 H1 f1 e1 R1⟩
def O7(t u:DT):DT:=fun δ h Q=>t δ h fun c h1=>if c=true then u δ h1 Q else Q false h1
def dOr(t u:DT):DT:=fun δ h Q=>t δ h fun c h1=>if c=true then Q true h1 else u δ h1 Q
def M3(t:DT):DT:=fun δ h Q=>t δ h fun c h1=>Q (!c) h1
variable {ga gb:DT} {rest:List Expr}
theorem E1(ha:ST X a ga):SW X (.BoolOp .And [a] pos) ga:=b1Y ha
theorem B7(ha:ST X a ga):SW X (.BoolOp .Or [a] pos) ga:=b3U ha
theorem E3(ha:ST X a ga)(hb:SW X (.BoolOp .And (b :: rest) pos) gb):SW X (.BoolOp .And (a :: b :: rest) pos) (O7 ga gb):=PW.imp (b6y ha hb) fun σ H Q zz0=>by
 obtain ⟨π,α,δ,h,Q',R,S,f,k⟩:=zz0;refine ⟨π,α,δ,h,_,R,S,f,fun c h1 α1 H1 f1 e1 R1=>?_⟩
 cases c with
 |true=>exact Y9 ⟨π,α1,δ,h1,Q',R1,S.mono e1,by simpa using f1,fun b h' α' H' a e c=>k b h' α' H' a (e1.trans e) c⟩
 |false=>exact T7 (k false h1 α1 H1 (by simpa using f1) e1 R1)
theorem B8(ha:ST X a ga)(hb:SW X (.BoolOp .Or (b :: rest) pos) gb):SW X (.BoolOp .Or (a :: b :: rest) pos) (dOr ga gb):=PW.imp (b7C ha hb) fun σ H Q zz0=>by
 obtain ⟨π,α,δ,h,Q',R,S,f,k⟩:=zz0;refine ⟨π,α,δ,h,_,R,S,f,fun c h1 α1 H1 f1 e1 R1=>?_⟩
 cases c with
 |true=>exact Y9 (k true h1 α1 H1 (by simpa using f1) e1 R1)
 |false=>exact T7 ⟨π,α1,δ,h1,Q',R1,S.mono e1,by simpa using f1,fun b h' α' H' a e c=>k b h' α' H' a (e1.trans e) c⟩
theorem F1(h:SW X e ga):ST X e ga:=PW.pt h
theorem A9(ha:ST X a ga):ST X (.UnaryOp .Not a pos) (M3 ga):=PT.imp (b4S ha) fun σ H Q ⟨π,α,δ,h,Q',R,S,f,k⟩=>⟨π,α,δ,h,_,R,S,f,fun c h1 α1 H1 f1 e1 R1=>k (!c) h1 α1 H1 f1 e1 R1⟩
def b2D(a b:DE):DE:=fun δ h Q=>a δ h fun x h1=>match x with | .bl k=>if k=true then b δ h1 Q else Q (.bl false) h1 | _=>False
def b7u(a b:DE):DE:=fun δ h Q=>a δ h fun x h1=>match x with | .bl k=>if k=true then Q (.bl true) h1 else b δ h1 Q | _=>False
def c0y(a:DE):DE:=fun δ h Q=>a δ h fun x h1=>match x with | .bl b=>Q (.bl (!b)) h1 | _=>False
theorem a6R{op}(h:SE X a fa):SE X (.BoolOp op [a] pos) fa:=b6q h
theorem b4i(ha:SE X a fa)(hb:SE X (.BoolOp .And (b :: rest) pos) fb):SE X (.BoolOp .And (a :: b :: rest) pos) (b2D fa fb):=PE.imp (b3H ha hb) fun σ H Q zz0=>by
 obtain ⟨π,α,δ,h,Q',R,S,f,k⟩:=zz0;refine ⟨π,α,δ,h,_,R,S,f,fun x h1 α1 H1 v1 f1 e1 R1 q1=>?_⟩
 cases q1 with
 |bl c =>
  refine ⟨c,rfl,?_⟩
  cases c with
  |true=>exact Y9 ⟨π,α1,δ,h1,Q',R1,S.mono e1,by simpa using f1,fun d h' α' H' v a e c d'=>k d h' α' H' v a (e1.trans e) c d'⟩
  |false=>exact T7 (k _ h1 α1 H1 _ (by simpa using f1) e1 R1 (.bl false))
 |_=>exact f1.elim
theorem b8K(ha:SE X a fa)(hb:SE X (.BoolOp .Or (b :: rest) pos) fb):SE X (.BoolOp .Or (a :: b :: rest) pos) (b7u fa fb):=PE.imp (b7V ha hb) fun σ H Q zz0=>by
 obtain ⟨π,α,δ,h,Q',R,S,f,k⟩:=zz0;refine ⟨π,α,δ,h,_,R,S,f,fun x h1 α1 H1 v1 f1 e1 R1 q1=>?_⟩
 cases q1 with
 |bl c =>
  refine ⟨c,rfl,?_⟩
  cases c with
  |true=>exact Y9 (k _ h1 α1 H1 _ (by simpa using f1) e1 R1 (.bl true))
  |false=>exact T7 ⟨π,α1,δ,h1,Q',R1,S.mono e1,by simpa using f1,fun d h' α' H' v a e c d'=>k d h' α' H' v a (e1.trans e) c d'⟩
 |_=>exact f1.elim
def dIf(t:DT)(a b:DE):DE:=fun δ h Q=>t δ h fun c h1=>if c=true then a δ h1 Q else b δ h1 Q
theorem R8(hc:ST X c ga)(ha:SE X a fa)(hb:SE X b fb):SE X (.IfExp c a b pos) (dIf ga fa fb):=PE.imp (a8k hc ha hb) fun σ H Q zz0=>by
 obtain ⟨π,α,δ,h,Q',R,S,f,k⟩:=zz0;refine ⟨π,α,δ,h,_,R,S,f,fun c h1 α1 H1 f1 e1 R1=>?_⟩
 cases c with
 |true=>exact Y9 ⟨π,α1,δ,h1,Q',R1,S.mono e1,by simpa using f1,fun d h' α' H' v a e c d'=>k d h' α' H' v a (e1.trans e) c d'⟩
 |false=>exact T7 ⟨π,α1,δ,h1,Q',R1,S.mono e1,by simpa using f1,fun d h' α' H' v a e c d'=>k d h' α' H' v a (e1.trans e) c d'⟩
def c8:DA:=fun _ h Q=>Q [] h
def a8(a:DE)(r:DA):DA:=fun δ h Q=>a δ h fun x h1=>r δ h1 fun xs h2=>Q (x :: xs) h2
variable {es:List Expr} {n:Nat} {fs:DA}
theorem b8:SA X [] 0 c8:=PA.imp N7 fun σ H Q ⟨π,α,δ,h,Q',R,S,f,k⟩=>k [] h α H [] f (Ext.refl ..) R .nil rfl
theorem a7(ha:SE X e fa)(hr:SA X es n fs)(hs:starEach (e :: es) X.env=(false,eval e X.env) :: starEach es X.env:=by rfl):SA X (e :: es) (n + 1) (a8 fa fs):=PA.imp (A4 ha hr hs) fun σ H Q zz0=>by
 obtain ⟨π,α,δ,h,Q',R,S,f,k⟩:=zz0;refine ⟨π,α,δ,h,_,R,S,f,fun x h1 α1 H1 v1 f1 e1 R1 q1=>?_⟩;refine ⟨π,α1,δ,h1,_,R1,S.mono e1,f1,fun ds h2 α2 H2 vs f2 e2 R2 q2 l2=>?_⟩;exact k (x :: ds) h2 α2 H2 (v1 :: vs) f2 (e1.trans e2) R2 (.cons (q1.mono e2) q2) (by rw [List.length_cons,l2])
def t9(f:DA):DE:=fun δ h Q=>f δ h fun ds h1=>Q (.tup ds) h1
theorem i8{x1}(hf:SA X es n fs)(hn:n <= sizeLine:=by decide):SE X (.Tuple es x1 pos) (t9 fs):=PE.imp (a6I hf) fun σ H Q zz0=>by
 obtain ⟨π,α,δ,h,Q',R,S,f,k⟩:=zz0;refine ⟨π,α,δ,h,_,R,S,f,fun ds h1 α1 H1 vs f1 e1 R1 q1 l1=>⟨by rw [<- q1.length,l1];exact hn,fun p hp=>?_⟩⟩;have e2:Ext α1 H1 α1 (upd H1 p (.tup vs)):=Ext.new hp;exact k (.tup ds) h1 α1 _ _ f1 (e1.trans e2) (R1.new hp) (.tup ⟨R1.out hp,R1.outP hp,m8⟩ (q1.mono e2))
abbrev DN:=Sl->Hh->(List D->Hh->Prop)->Prop
inductive LN(K:PySem.W.Frag)(f:DN)(σ:St)(H:Hp)(Q:VK):Prop
 |mk (π:List Addr) (α:List Addr) (δ:Sl) (h:Hh) (Q':List D->Hh->Prop):HRel ⟨K,π⟩ α H h->RelS ⟨K,π⟩ α H δ σ->f δ h Q'->(∀ ds h' α' H' us p,Q' ds h'->Ext α H α' H'->HRel ⟨K,p :: π⟩ α' H' h'->RelDs ⟨K,p :: π⟩ α' H' ds us->H' p=some (.lst us)->H p=none->p ∉ π->Q (.ref p) H')->LN K f σ H Q
theorem LN.last{K:PySem.W.Frag}{π α α':List Addr}{H H':Hp}{h h':Hh}{Q:VK}{Q':List D->Hh->Prop}(k:∀ ds h' α' H' us p,Q' ds h'->Ext α H α' H'->HRel ⟨K,p :: π⟩ α' H' h'->RelDs ⟨K,p :: π⟩ α' H' ds us->H' p=some (.lst us)->H p=none->p ∉ π->Q (.ref p) H')
  {ds:List D} {us:List V} {p:Addr} (f:Q' ds h') (e:Ext α H α' H') (R:HRel ⟨K,π⟩ α' H' h') (r:RelDs ⟨K,π⟩ α' H' ds us) (hp:H' p=none):Q (.ref p) (upd H' p (.lst us)):=by
 have e2:Ext α' H' α' (upd H' p (.lst us)):=Ext.new hp;refine k ds h' α' _ us p f (e.trans e2) (R.under hp) ((r.more fun q hq=>?_).mono e2) m8 (e.dom p hp) (R.outP hp)
 rcases List.mem_cons.mp hq with rfl | z
 ·exact .inr hp
 ·exact .inl z
def SN(X:Cx)(e:Expr)(f:DN):Prop:=PE X e (LN X.K f)
def dV(f:DN):DE:=fun δ h Q=>f δ h fun ds h'=>Q (.lst ds) h'
def dTk(f:DN):DE:=fun δ h Q=>f δ h fun ds h'=>Q (.ref h'.length) (h' ++ [.lst ds])
variable {fn:DN}
theorem C9(hf:SN X e fn):SE X e (dV fn):=PE.imp hf fun σ H Q zz0=>by
 obtain ⟨π,α,δ,h,Q',R,S,f,k⟩:=zz0;refine ⟨π,α,δ,h,_,R,S,f,fun ds h1 α1 H1 us p f1 e1 R1 q1 hus hp np=>?_⟩;exact k (.lst ds) h1 α1 _ _ f1 e1 R1.less (.lst ⟨(R1.dis p List.mem_cons_self).1,np,hus⟩ (q1.more fun q hq=>.inl (List.mem_cons_of_mem _ hq)))
theorem S9(hf:SN X e fn):SE X e (dTk fn):=PE.imp hf fun σ H Q zz0=>by
 obtain ⟨π,α,δ,h,Q',R,S,f,k⟩:=zz0;refine ⟨π,α,δ,h,_,R,S,f,fun ds h1 α1 H1 us p f1 e1 R1 q1 hus hp np=>?_⟩;refine k (.ref h1.length) (h1 ++ [.lst ds]) (α1 ++ [p]) _ _ f1 (e1.adopt hp) (R1.adopt np (.lst hus q1.adopt)) (.ref ?_);rw [<- R1.len];simp
theorem t7(hf:SA X es n fs)(hn:n <= sizeLine:=by decide):SN X (.List es pos) fs:=PE.imp (b4N hf) fun σ H Q zz0=>by
 obtain ⟨π,α,δ,h,Q',R,S,f,k⟩:=zz0;refine ⟨π,α,δ,h,_,R,S,f,fun ds h1 α1 H1 vs f1 e1 R1 q1 l1=>⟨by rw [<- q1.length,l1];exact hn,fun p hp=>?_⟩⟩;exact LN.last (h:=h) k f1 e1 R1 q1 hp
end
end DL
namespace DL
open PySem PySem.Spec L2
section
variable {X:Cx}
def pI(C:Int->Int->Prop)(g:Int->Int->Int):P2:=fun x y h Q=>match x,y with | .int i,.int j=>C i j/\Q (.int (g i j)) h | _,_=>False
def pI0(g:Int->Int->Int):P2:=fun x y h Q=>match x,y with | .int i,.int j=>Q (.int (g i j)) h | _,_=>False
def pB0(g:Int->Int->Bool):P2:=fun x y h Q=>match x,y with | .int i,.int j=>Q (.bl (g i j)) h | _,_=>False
theorem a0N{f:Value->Value->Sem Value}{C:Int->Int->Prop}{g:Int->Int->Int}(h:OpR X f (rI C fun i j=>.int (g i j))):OpR X f (r2 X.K (pI C g)):=OpR.imp h fun x y H Q zz0=>by
 obtain ⟨π,α,h,d,e,Q',R,r1,r2,f,k⟩:=zz0
 cases r1 with
 |int i =>
  cases r2 with
  |int j=>exact ⟨i,j,rfl,rfl,f.1,k _ h α H _ f.2 (Ext.refl ..) R (.int _)⟩
  |_=>exact f.elim
 |_=>exact f.elim
theorem a1u{f:Value->Value->Sem Value}{g:Int->Int->Int}(h:OpR X f (rI0 fun i j=>.int (g i j))):OpR X f (r2 X.K (pI0 g)):=OpR.imp h fun x y H Q zz0=>by
 obtain ⟨π,α,h,d,e,Q',R,r1,r2,f,k⟩:=zz0
 cases r1 with
 |int i =>
  cases r2 with
  |int j=>exact ⟨i,j,rfl,rfl,k _ h α H _ f (Ext.refl ..) R (.int _)⟩
  |_=>exact f.elim
 |_=>exact f.elim
theorem a1X{f:Value->Value->Sem Value}{g:Int->Int->Bool}(h:OpR X f (rI0 fun i j=>.bl (g i j))):OpR X f (r2 X.K (pB0 g)):=OpR.imp h fun x y H Q zz0=>by
 obtain ⟨π,α,h,d,e,Q',R,r1,r2,f,k⟩:=zz0
 cases r1 with
 |int i =>
  cases r2 with
  |int j=>exact ⟨i,j,rfl,rfl,k _ h α H _ f (Ext.refl ..) R (.bl _)⟩
  |_=>exact f.elim
 |_=>exact f.elim
abbrev M2:P2:=pI0 fun i j=>i - j
abbrev b8s:P2:=pI (fun _ j=>0 < j/\j < 2 ^ 100) fun i j=>i / j
abbrev a0f:P2:=pI (fun _ j=>0 < j) fun i j=>i % j
abbrev b2j:P2:=pI b0X fun i j=>i ^ j.toNat
abbrev a5o:P2:=pI b0X fun i j=>i * 2 ^ j.toNat
abbrev a2i:P2:=pI (fun _ j=>0 <= j) fun i j=>i / 2 ^ j.toNat
abbrev R7:P2:=pI0 fun i j=>Builtin.bitAnd i j
abbrev b4B:P2:=pI0 fun i j=>Builtin.bitOr i j
abbrev Q4:P2:=pB0 fun i j=>decide (i < j)
abbrev pLe:P2:=pB0 fun i j=>decide (i <= j)
abbrev pGt:P2:=pB0 fun i j=>decide (j < i)
abbrev pGe:P2:=pB0 fun i j=>decide (j <= i)
theorem C8:OpR X (binaryOp .Sub) (r2 X.K M2):=a1u b5v
theorem a6H:OpR X (binaryOp .FloorDiv) (rI (fun _ j=>0 < j/\j < 2 ^ 100) fun i j=>.int (i / j)):=opI fun i j _ _ _ _ _ hc q=>by
 have e:i.fdiv j=i / j:=Int.fdiv_eq_ediv_of_nonneg i (by omega);refine PyProof.Rows.floordiv_int (by omega) (by rw [e];exact q) (.inl (PyProof.noPylong_of_log2 ?_));have h1:j.natAbs ≠ 0:=by omega
 rw [Nat.log2_lt h1]
 have h2:j.natAbs < 2 ^ 100:=by
  have:=hc.2
  omega
 exact Nat.lt_of_lt_of_le h2 (Nat.pow_le_pow_right (by decide) (by decide))
theorem b6l:OpR X (binaryOp .FloorDiv) (r2 X.K b8s):=a0N a6H
theorem M0:OpR X (binaryOp .Mod) (r2 X.K a0f):=a0N b4R
theorem a3n:OpR X (binaryOp .Pow) (r2 X.K b2j):=a0N b3T
theorem a0w:OpR X (binaryOp .LShift) (r2 X.K a5o):=a0N b5l
theorem S4:OpR X (binaryOp .RShift) (r2 X.K a2i):=a0N b5h
theorem J5:OpR X (binaryOp .BitAnd) (r2 X.K R7):=a1u b6k
theorem a7m:OpR X (binaryOp .BitOr) (r2 X.K b4B):=a1u b8C
theorem K5:OpR X (compareOp .LtE) (r2 X.K pLe):=a1X b7y
theorem N9:OpR X (compareOp .Gt) (r2 X.K pGt):=a1X b8w
theorem b8G:OpR X (compareOp .GtE) (r2 X.K pGe):=a1X b8m
theorem F8:OpR X (compareOp .Lt) (r2 X.K Q4):=a1X b7D
theorem b0d:OpR X (inplaceOp .Add) (r2 X.K (pI0 fun i j=>i + j)):=a1u b0u
def b6O:P2:=fun x y h Q=>match x,y with
 |.int i,.int j=>Q (.int (i + j)) h
 |.str a,.str b=>a.length + b.length <= 16777216/\Q (.str (a ++ b)) h
 |.tup a,.tup b=>a ≠ []/\a.length + b.length <= 16777216/\Q (.tup (a ++ b)) h
 |_,_=>False
theorem b3G:OpR X (binaryOp .Add) (r2 X.K b6O):=OpR.imp (op_add.or (op_add_str.or b1s)) fun x y H Q zz0=>by
 obtain ⟨π,α,h,d,e,Q',R,r1,r2,f,k⟩:=zz0
 cases r1 with
 |int i =>
  cases r2 with
  |int j=>exact .inl ⟨i,j,rfl,rfl,k _ h α H _ f (Ext.refl ..) R (.int _)⟩
  |_=>exact f.elim
 |str i =>
  cases r2 with
  |str j=>exact .inr (.inl ⟨i,j,rfl,rfl,by rw [sizeLine_eq];exact f.1,k _ h α H _ f.2 (Ext.refl ..) R (.str _)⟩)
  |_=>exact f.elim
 |@tup a us ds t r =>
  cases r2 with
  |@tup a' us' ds' t' r' =>
   obtain ⟨f1,f2,f3⟩:=f;have l1:=r.length;have l2:=r'.length;refine .inr (.inr ⟨a,a',us,us',rfl,rfl,t.sq,t'.sq,?_,by rw [sizeLine_eq,<- l1,<- l2];exact f2,fun z=>?_,fun z p hp=>?_⟩)
   ·intro z;subst z
    cases r;exact f1 rfl
   ·subst z
    cases r'
    rw [List.append_nil] at f3;exact k _ h α H _ f3 (Ext.refl ..) R (.tup t r)
   ·have e2:Ext α H α (upd H p (.tup (us ++ us'))):=Ext.new hp;exact k _ h α _ _ f3 e2 (R.new hp) (.tup ⟨R.out hp,R.outP hp,m8⟩ ((r.append r').mono e2))
  |_=>exact f.elim
 |_=>exact f.elim
def a2S:P1:=fun x h Q=>match x with | .int i=>Q (.int (-i)) h | _=>False
theorem S7:UnR X (unaryOp .USub) (r1 X.K a2S):=UnR.imp b5N fun x H Q zz0=>by
 obtain ⟨π,α,h,d,Q',R,r1,f,k⟩:=zz0
 cases r1 with
 |int i=>exact ⟨i,rfl,k _ h α H _ f (Ext.refl ..) R (.int _)⟩
 |_=>exact f.elim
def O0:D->Bool | .non=>true | _=>false
def pIs(neg:Bool):P2:=fun x y h Q=>match y with | .non=>Q (.bl (if neg then !O0 x else O0 x)) h | _=>False
theorem a5F{K:KP}{α:List Addr}{H:Hp}{d:D}{v:V}(r:RelD K α H d v):decide (v = .non)=O0 d:=by cases r <;> rfl
theorem J1:OpR X (compareOp .Is) (r2 X.K (pIs false)):=OpR.imp b4L fun x y H Q zz0=>by
 obtain ⟨π,α,h,d,e,Q',R,r1,r2,f,k⟩:=zz0
 cases r2 with
 |non =>
  refine ⟨rfl,k _ h α H _ f (Ext.refl ..) R ?_⟩;rw [a5F r1];exact .bl _
 |_=>exact f.elim
theorem Z7{K:KP}{α:List Addr}{H:Hp}{ds:List D}{us:List V}{i:Int}{d:D}(r:RelDs K α H ds us)(e:atI ds i=some d):∃ u,atI us i=some u/\RelD K α H d u:=by
 unfold atI at e ⊢;rw [<- r.length]
 cases q:ixN ds.length i with
 |none=>rw [q] at e;cases e
 |some j =>
  rw [q] at e;exact r.get e
def K7(h:Hh):D->Option (List D)
 |.lst xs=>some xs
 |.scr xs=>some xs
 |.tup xs=>some xs
 |.ref i=>match h[i]? with | some (.lst xs)=>some xs | _=>none
 |_=>none
theorem a0e{K:KP}{α:List Addr}{H:Hp}{h:Hh}(R:HRel K α H h){d:D}{v:V}{xs:List D}(r:RelD K α H d v)(e:K7 h d=some xs):∃ p us,v = .ref p/\(SqL K.K H p us\/SqT K.K H p us)/\RelDs K α H xs us:=by
 by_cases z:∃ ys,d = .tup ys
 ·obtain ⟨ys,rfl⟩:=z;cases e;obtain ⟨p,us,a,b,c⟩:=b6w r;exact ⟨p,us,a,.inr b,c⟩
 ·have e':w6 h d=some xs:=by
   cases d with
   |tup ys=>exact absurd ⟨ys,rfl⟩ z
   |lst ys=>exact e
   |scr ys=>exact e
   |ref i=>exact e
   |_=>cases e
  obtain ⟨p,us,a,b,c⟩:=Z8 R r e';exact ⟨p,us,a,.inl b,c⟩
def a6w(x:Str)(i:Int):Option D:=if x.length <= 16777216 then (atI x.cps.toList i).map fun c=>.str ⟨#[c]⟩ else none
def ixD(h:Hh)(x y:D):Option D:=match y with
 |.int i=>match x with
  |.tup xs=>atI xs i
  |.lst xs=>atI xs i
  |.scr xs=>atI xs i
  |.ref j=>match h[j]? with | some (.lst xs)=>atI xs i | _=>none
  |.str s=>a6w s i
  |_=>none
 |_=>none
def pIx:P2:=fun x y h Q=>match ixD h x y with | some d=>Q d h | none=>False
theorem c6:IxR X (r2 X.K pIx):=IxR.imp b5t fun x y H Q zz0=>by
 obtain ⟨π,α,h,d,e,Q',R,r1,r2,f,k⟩:=zz0;unfold pIx at f
 cases q:ixD h d e with
 |none=>rw [q] at f;exact f.elim
 |some z =>
  rw [q] at f
  cases r2 with
  |int i =>
   cases r1 with
   |@tup a us ds t r =>
    obtain ⟨u,e1,e2⟩:=Z7 r q;exact .inr (.inl ⟨_,us,i,u,rfl,rfl,t.sq,e1,k _ h α H _ f (Ext.refl ..) R e2⟩)
   |@lst a us ds t r =>
    obtain ⟨u,e1,e2⟩:=Z7 r q;exact .inl ⟨_,us,i,u,rfl,rfl,t.sq,e1,k _ h α H _ f (Ext.refl ..) R e2⟩
   |@scr a us ds t r =>
    obtain ⟨u,e1,e2⟩:=Z7 r q;exact .inl ⟨_,us,i,u,rfl,rfl,t.sq,e1,k _ h α H _ f (Ext.refl ..) R e2⟩
   |@ref j a hp =>
    have q:(match h[j]? with | some (.lst xs)=>atI xs i | _=>none)=some z:=q
    cases w:h[j]? with
    |none=>rw [w] at q;cases q
    |some o =>
     rw [w] at q
     cases o with
     |lst ys =>
      obtain ⟨p,us,e1,e2,e3⟩:=R.lst w;rw [hp] at e1;cases e1;obtain ⟨u,e4,e5⟩:=Z7 e3 q;exact .inl ⟨_,us,i,u,rfl,rfl,SqL.of e2,e4,k _ h α H _ f (Ext.refl ..) R e5⟩
     |_=>cases q
   |str s =>
    have q:a6w s i=some z:=q;unfold a6w at q
    split at q
    ·rename_i hl
     cases w:atI s.cps.toList i with
     |none=>rw [w] at q;cases q
     |some c =>
      rw [w] at q;cases q;exact .inr (.inr ⟨s,i,c,rfl,rfl,by rw [sizeLine_eq];exact hl,w,k _ h α H _ f (Ext.refl ..) R (.str _)⟩)
    ·cases q
   |_=>cases q
  |_=>cases q
end
def U3(xs:List D)(lo hi:Option Int):List D:=(xs.drop (HT.sIx xs.length 0 lo)).take (HT.sIx xs.length xs.length hi - HT.sIx xs.length 0 lo)
theorem a1L{K:KP}{α:List Addr}{H:Hp}{ds:List D}{us:List V}(r:RelDs K α H ds us)(lo hi:Option Int):RelDs K α H (U3 ds lo hi) (V8 us lo hi):=by
 unfold U3 V8;rw [r.length];exact (r.drop _).take _
abbrev DO:=Sl->Hh->(Option Int->Hh->Prop)->Prop
def U5:DO:=fun _ h Q=>Q none h
def a0d(f:DE):DO:=fun δ h Q=>f δ h fun d h1=>match d with | .int i=>Q (some i) h1 | _=>False
inductive LO(K:PySem.W.Frag)(f:DO)(σ:St)(H:Hp)(Q:Option Int->Hp->Prop):Prop
 |mk (π:List Addr) (α:List Addr) (δ:Sl) (h:Hh) (Q':Option Int->Hh->Prop):HRel ⟨K,π⟩ α H h->RelS ⟨K,π⟩ α H δ σ->f δ h Q'->(∀ i h' α' H',Q' i h'->Ext α H α' H'->HRel ⟨K,π⟩ α' H' h'->Q i H')->LO K f σ H Q
def SO(X:Cx)(e:Option Expr)(f:DO):Prop:=PO X e (LO X.K f)
section
variable {X:Cx} {e:Expr} {fe:DE} {lo hi:Option Expr} {fl fh:DO} {pos p2:Pos}
theorem PO.imp{o:Option Expr}{t t':TO}(h:PO X o t)(k:∀ σ H Q,t' σ H Q->t σ H Q):PO X o t':=fun pins s σ H Q I q=>h pins s σ H Q I (k σ H Q q)
theorem a1t:SO X none U5:=PO.imp b1N fun σ H Q ⟨π,α,δ,h,Q',R,S,f,k⟩=>k none h α H f (Ext.refl ..) R
theorem W1(h:SE X e fe):SO X (some e) (a0d fe):=PO.imp (b1x h) fun σ H Q zz0=>by
 obtain ⟨π,α,δ,h,Q',R,S,f,k⟩:=zz0;refine ⟨π,α,δ,h,_,R,S,f,fun d h1 α1 H1 v1 f1 e1 R1 q1=>?_⟩
 cases q1 with
 |int i=>exact ⟨i,rfl,k (some i) h1 α1 H1 f1 e1 R1⟩
 |_=>exact f1.elim
def b9z(K:PySem.W.Frag):V->Option Int->Option Int->Hp->VK->Prop:=fun x lo hi H Q=>∃ a xs,x = .ref a/\SqT K H a xs/\(V8 xs lo hi=xs->Q (.ref a) H)/\∀ p,H p=none->Q (.ref p) (upd H p (.tup (V8 xs lo hi)))
theorem sl_tupD:SlR X (b9z X.K):=by
 intro pins s σ H x v vl vu lo hi sl Q I rx hs pl pu h;obtain ⟨a,xs,rfl,hx,q1,q2⟩:=h
 by_cases hw:HT.sIx xs.length 0 lo=0/\HT.sIx xs.length xs.length hi=xs.length
 ·cases rx;obtain ⟨its,r,ht,hz⟩:=I.tuple hx;have hlen:its.toArray.size=xs.length:=by rw [List.size_toArray];exact r.length.symm
  refine ⟨"tuple",_,PyProof.Rows.slot_tuple_getitem.lookup,ht.typeIs,?_⟩
  have ec:V8 xs lo hi=xs:=by
   unfold V8;rw [hw.1,hw.2,List.drop_zero,Nat.sub_zero,List.take_length]
  exact HT.getItem_tuple_all ht hs pl pu (by rw [hlen];exact hw) ⟨.ref a,H,I,rfl,q1 ec⟩
 ·exact b6u pins s σ H (.ref a) v vl vu lo hi sl Q I rx hs pl pu ⟨a,xs,rfl,hx,hw,fun p hp=>q2 p hp⟩
def c0Y(fe:DE)(fl fh:DO):DN:=fun δ h Q=>fe δ h fun d h1=>fl δ h1 fun l h2=>fh δ h2 fun u h3=>match w6 h3 d with | some xs=>Q (U3 xs l u) h3 | none=>False
end
end DL
namespace DL
open PySem PySem.Spec L2
def d7(i:Nat):DG:=fun d δ h Q=>Q (δ.set i (some d)) h
def U4:DGs:=fun ds δ h Q=>match ds with | []=>Q δ h | _=>False
def A8(t:DG)(u:DGs):DGs:=fun ds δ h Q=>match ds with | d :: r=>t d δ h fun δ' h'=>u r δ' h' Q | []=>False
def a2c(n:Nat)(t:DGs):DG:=fun d δ h Q=>match d with | .tup xs=>xs.length=n/\t xs δ h Q | _=>False
section
variable {X:Cx} {pos:Pos}
theorem j9{i:Nat}{x:Str}(hN:X.N.Nodup)(hi:X.N[i]?=some x)(hx:Loc X.env.scope x)(hf:X.fn x=true\/X.env.scope.names.lookup x=some .local:=by trivial):SG X (.Name x pos) (d7 i):=PG.imp (b2w hN hi hx hf) fun v σ H Q ⟨π,α,δ,h,d,Q',R,S,r,f,k⟩ =>
 k _ h α H _ f (Ext.refl ..) R (S.set i r)
theorem K8:SGs X [] U4:=PGs.imp b0e fun vs σ H Q zz0=>by
 obtain ⟨π,α,δ,h,ds,Q',R,S,r,f,k⟩:=zz0
 cases r with
 |nil=>exact ⟨rfl,k δ h α H σ f (Ext.refl ..) R S⟩
 |cons _ _=>exact f.elim
theorem u6{e:Expr}{es:List Expr}{t:DG}{u:DGs}(h1:SG X e t)(h2:SGs X es u)(hs:(assignEach (e :: es) X.env).map (·.2)=assign e X.env :: (assignEach es X.env).map (·.2):=by rfl):SGs X (e :: es) (A8 t u):=PGs.imp (a7P h1 h2 hs) fun vs σ H Q zz0=>by
 obtain ⟨π,α,δ,h,ds,Q',R,S,r,f,k⟩:=zz0
 cases r with
 |nil=>exact f.elim
 |@cons d v ds us rd rs =>
  refine ⟨v,us,rfl,π,α,δ,h,d,_,R,S,rd,f,fun δ1 h1 α1 H1 σ1 f1 e1 R1 S1=>?_⟩;exact ⟨π,α1,δ1,h1,ds,Q',R1,S1,rs.mono e1,f1,fun δ' h' α' H' σ' a b c d'=>k δ' h' α' H' σ' a (e1.trans b) c d'⟩
theorem P6{es:List Expr}{j:Nat}{t:DGs}{n:Nat}(hc:X.calm=true)(h:SGs X es t)(hn:(assignEach es X.env).length=n:=by rfl)(hst:(assignEach es X.env).findIdx? (·.1)=none:=by rfl):SG X (.Tuple es j pos) (a2c n t):=PG.imp (b6m hc h hn hst) fun v σ H Q zz0=>by
 obtain ⟨π,α,δ,h,d,Q',R,S,r,f,k⟩:=zz0
 cases r with
 |@tup a us ds t rs=>exact ⟨a,us,rfl,t.sq,by rw [<- rs.length];exact f.1,π,α,δ,h,ds,Q',R,S,rs,f.2,k⟩
 |_=>exact f.elim
def b0A(o i v:D)(h:Hh)(Q:Hh->Prop):Prop:=match o,i with
 |.ref j,.int k=>match h[j]? with
  |some (.lst xs)=>match ixN xs.length k with
   |some m=>Q (h.set j (.lst (xs.set m v)))
   |none=>False
  |_=>False
 |_,_=>False
def a6i(fo fi:DE):DG:=fun v δ h Q=>fo δ h fun o h1=>fi δ h1 fun i h2=>b0A o i v h2 fun h3=>Q δ h3
theorem a8u{K:PySem.W.Frag}{π α:List Addr}{H:Hp}{h:Hh}{o i v:D}{ov iv vv:V}{Q':Hh->Prop}{Q:Hp->Prop}(R:HRel ⟨K,π⟩ α H h)(ro:RelD ⟨K,π⟩ α H o ov)(ri:RelD ⟨K,π⟩ α H i iv)(rv:RelD ⟨K,π⟩ α H v vv)(f:b0A o i v h Q')
  (k:∀ h' H',Q' h'->Ext α H α H'->HRel ⟨K,π⟩ α H' h'->Q H'):b2K ov iv vv H Q:=by
 unfold b0A at f
 cases ro with
 |@ref j a hp =>
  cases ri with
  |int n =>
   dsimp only at f
   cases w:h[j]? with
   |none=>rw [w] at f;exact f.elim
   |some ob =>
    rw [w] at f
    cases ob with
    |lst xs =>
     dsimp only at f;obtain ⟨p,us,e1,e2,e3⟩:=R.lst w;rw [hp] at e1;cases e1
     cases q:ixN xs.length n with
     |none=>rw [q] at f;exact f.elim
     |some m =>
      rw [q] at f;have e4:Ext α H α (upd H a (.lst (us.set m vv))):=Ext.write (List.mem_of_getElem? hp);refine ⟨a,us,n,m,rfl,rfl,e2,by rw [<- e3.length];exact q,k _ _ f e4 (R.write hp (.lst m8 ((RelDs.set rv m e3).mono e4)))⟩
    |_=>exact f.elim
  |_=>exact f.elim
 |_=>exact f.elim
theorem a4V{o i:Expr}{fo fi:DE}(ho:SE X o fo)(hi:SE X i fi)
  (ha:∀ v,assign (.Subscript o i pos) X.env v=(do
   let ov <- holding [v] (eval o X.env)
   let iv <- holding [v,ov] (eval i X.env)
   standAt pos
   holding [v,ov,iv] (setItem ov iv v)
   release [v,ov,iv] []):=by intro _;rfl):SG X (.Subscript o i pos) (a6i fo fi):=PG.imp (b3P ho hi a6Q ha) fun v σ H Q ⟨π,α,δ,h,d,Q',R,S,r,f,k⟩=>by
 refine ⟨π,α,δ,h,_,R,S,f,fun o h1 α1 H1 v1 f1 e1 R1 q1=>?_⟩;refine ⟨π,α1,δ,h1,_,R1,S.mono e1,f1,fun i h2 α2 H2 v2 f2 e2 R2 q2=>?_⟩;exact a8u R2 (q1.mono e2) q2 (r.mono (e1.trans e2)) f2 fun h3 H3 f3 e3 R3=>k δ h3 α2 H3 σ f3 (e1.trans (e2.trans e3)) R3 (S.mono (e1.trans (e2.trans e3)))
end
def k6:DS:=fun E δ h=>E.nx δ h
def d8(f g:DS):DS:=fun E δ h=>f { E with nx:=g E } δ h
def a8m:DS:=fun _ _ _=>False
def b9S:DS:=fun E δ h=>E.bk δ h
def c0v:DS:=fun E δ h=>E.ct δ h
def F2(f:DE):DS:=fun E δ h=>f δ h fun _ h1=>E.nx δ h1
def l9(f:DE):DS:=fun E δ h=>f δ h E.rt
def c0G:DS:=fun E _ h=>E.rt .non h
def o9(t:DT)(f g:DS):DS:=fun E δ h=>t δ h fun c h1=>if c=true then f E δ h1 else g E δ h1
def j8(f:DE)(g:DG):DS:=fun E δ h=>f δ h fun x h1=>g x δ h1 E.nx
def b6c(i:Nat)(f:DE)(p:P2):DS:=fun E δ h=>match δ[i]? with | some (some x)=>f δ h fun y h1=>p x y h1 fun z h2=>E.nx (δ.set i (some z)) h2 | _=>False
section
variable {X:Cx} {s:Stmt} {ss:List Stmt} {f g:DS} {e:Expr} {fe:DE} {pos:Pos}
theorem a7h{K:PySem.W.Frag}{Ex:XK}{F:M9}{σ:L2.St}{H:Hp}(w:LS K Ex (d8 f g) F σ H):b7o (LS K Ex f) (LS K Ex g) F σ H:=by
 obtain ⟨π,α,δ,h,E,R,S,q,k⟩:=w;exact ⟨π,α,δ,h,{ E with nx:=g E },R,S,q,⟨fun δ' h' α' H' σ' a b c d=>⟨π,α',δ',h',E,c,d,a,k.mono b⟩,k.rt,k.bk,k.ct,k.ex⟩⟩
theorem g6:SSs X [] k6:=PSs.imp b2a fun F σ H ⟨π,α,δ,h,E,R,S,q,k⟩=>k.nx δ h α H σ q (Ext.refl ..) R S
theorem d0(h:SS X s f):SSs X [s] f:=a5f h
theorem b9(h1:SS X s f)(h2:SSs X ss g):SSs X (s :: ss) (d8 f g):=PSs.imp (a3a h1 h2) fun _ _ _ w=>a7h w
theorem b0f:SS X s a8m:=PS.imp a7A fun F σ H ⟨π,α,δ,h,E,R,S,q,k⟩=>q.elim
theorem B5(he:SE X e fe)(hs:swapsWith e none pos.line X.env=pure false:=by rfl):SS X (.Expr e pos) (F2 fe):=PS.imp (a4E he hs) fun F σ H ⟨π,α,δ,h,E,R,S,q,k⟩ =>
 ⟨π,α,δ,h,_,R,S,q,fun d h1 α1 H1 v1 f1 e1 R1 q1=>k.nx δ h1 α1 H1 σ f1 e1 R1 (S.mono e1)⟩
theorem g9(he:SE X e fe):SS X (.Return (some e) pos) (l9 fe):=PS.imp (b4I he) fun F σ H ⟨π,α,δ,h,E,R,S,q,k⟩=>⟨π,α,δ,h,_,R,S,q,fun d h1 α1 H1 v1 f1 e1 R1 q1=>k.rt d h1 α1 H1 v1 f1 e1 R1 q1⟩
theorem p7{c:Expr}{a b:List Stmt}{t:DT}(hc:ST X c t)(ha:SSs X a f)(hb:SSs X b g):SS X (.If c a b pos) (o9 t f g):=PS.imp (b7J hc ha hb) fun F σ H zz0=>by
 obtain ⟨π,α,δ,h,E,R,S,q,k⟩:=zz0;refine ⟨π,α,δ,h,_,R,S,q,fun c h1 α1 H1 f1 e1 R1=>?_⟩
 cases c with
 |true=>exact Y9 ⟨π,α1,δ,h1,E,R1,S.mono e1,by simpa using f1,k.mono e1⟩
 |false=>exact T7 ⟨π,α1,δ,h1,E,R1,S.mono e1,by simpa using f1,k.mono e1⟩
theorem a8l{K:PySem.W.Frag}{Ex:XK}{tg:DG}{F:M9}{σ:L2.St}{H:Hp}(w:LS K Ex (j8 fe tg) F σ H):a8g (LE K fe) (LG K tg) F σ H:=by
 obtain ⟨π,α,δ,h,E,R,S,q,k⟩:=w;refine ⟨π,α,δ,h,_,R,S,q,fun d h1 α1 H1 v1 f1 e1 R1 q1=>?_⟩;exact ⟨π,α1,δ,h1,d,E.nx,R1,S.mono e1,q1,f1,fun δ' h' α' H' σ' a b c d'=>k.nx δ' h' α' H' σ' a (e1.trans b) c d'⟩
theorem Y0{tg:Expr}{t:DG}(he:SE X e fe)(hg:SG X tg t)(hs:swapsWithSole [tg] e pos.line X.env=pure false:=by rfl)(hw:swappedStores [tg] e X.env=pure none:=by rfl)
  (h1:(assignEach [tg] X.env).map (·.2)=[assign tg X.env]:=by rfl):SS X (.Assign [tg] e pos) (j8 fe t):=PS.imp (b4X he hg hs hw h1) fun _ _ _ w=>a8l w
theorem a5s{K:PySem.W.Frag}{Ex:XK}{i:Nat}{F:M9}{σ:L2.St}{H:Hp}(w:LS K Ex (j8 fe (d7 i)) F σ H):a8g (LE K fe) (a2V i) F σ H:=by
 obtain ⟨π,α,δ,h,E,R,S,q,k⟩:=w;exact ⟨π,α,δ,h,_,R,S,q,fun d h1 α1 H1 v1 f1 e1 R1 q1=>k.nx _ h1 α1 H1 _ f1 e1 R1 ((S.mono e1).set i q1)⟩
theorem g7{i:Nat}{x:Str}{pos':Pos}(hN:X.N.Nodup)(hi:X.N[i]?=some x)(hx:Loc X.env.scope x)(he:SE X e fe)(hs:swapsWith e (some (.Name x pos')) pos.line X.env=pure false:=by rfl)(hf:X.fn x=true\/X.env.scope.names.lookup x=some .local:=by trivial) :
  SS X (.Assign [.Name x pos'] e pos) (j8 fe (d7 i)):=PS.imp (b4n hN hi hx he hs hf) fun _ _ _ w=>a5s w
theorem b6T{i:Nat}{x:Str}{op:Operator}{p:P2}{pos':Pos}(hN:X.N.Nodup)(hi:X.N[i]?=some x)(hx:Loc X.env.scope x)(he:SE X e fe)(ho:OpR X (inplaceOp op) (r2 X.K p))(hf:X.fn x=true\/X.env.scope.names.lookup x=some .local:=by trivial) :
  SS X (.AugAssign (.Name x pos') op e pos) (b6c i fe p):=PS.imp (b3R hN hi hx he ho hf) fun F σ H ⟨π,α,δ,h,E,R,S,q,k⟩=>by
 unfold b6c at q
 split at q
 ·rename_i d w;obtain ⟨v,h1,h2⟩:=S.get i d w;refine ⟨v,h1,π,α,δ,h,_,R,S,q,fun y h1 α1 H1 v1 f1 e1 R1 q1=>?_⟩;exact ⟨π,α1,h1,d,y,_,R1,h2.mono e1,q1,f1,fun z h2 α2 H2 v2 f2 e2 R2 q2=>k.nx _ h2 α2 H2 _ f2 (e1.trans e2) R2 ((S.mono (e1.trans e2)).set i q2)⟩
 ·exact q.elim
def c0J(fo fi fe:DE)(p:P2):DS:=fun E δ h=>fo δ h fun o h1=>fi δ h1 fun i h2=>match o,i with
 |.ref j,.int n=>0 <= n/\match h2[j]? with
  |some (.lst xs)=>match xs[n.toNat]? with
   |some x=>fe δ h2 fun y h3=>p x y h3 fun z h4=>b0A o i z h4 fun h5=>E.nx δ h5
   |none=>False
  |_=>False
 |_,_=>False
end
def whN(t:DT)(b:DS)(E:K4):Nat->Sl->Hh->Prop
 |0,_,_=>False
 |n + 1,δ,h=>t δ h fun c h1=>if c=true then b { E with nx:=whN t b E n,ct:=whN t b E n,bk:=E.nx } δ h1 else E.nx δ h1
def a1Y(t:DT)(b:DS):DS:=fun E δ h=>∃ n,whN t b E n δ h
theorem a4U{X:Cx}{c:Expr}{body:List Stmt}{t:DT}{b:DS}{pos:Pos}(hp:PassesOwn (model X.prog X.w) X.A X.env X.xe)(hc:ST X c t)(hb:SSs X body b):SS X (.While c body [] pos) (a1Y t b):=PS.imp (a9f hp hc hb) fun F σ H zz0=>by
 obtain ⟨π,α,δ,h,E,R,S,q,k⟩:=zz0;obtain ⟨n,q⟩:=q;refine ⟨fun m σ' H'=>∃ α' δ' h',Ext α H α' H'/\HRel ⟨X.K,π⟩ α' H' h'/\RelS ⟨X.K,π⟩ α' H' δ' σ'/\whN t b E m δ' h',⟨n,α,δ,h,Ext.refl ..,R,S,q⟩,?_⟩
 rintro m σ' H' ⟨α',δ',h',e',R',S',q'⟩
 cases m with
 |zero=>exact q'.elim
 |succ m =>
  refine ⟨π,α',δ',h',_,R',S',q',fun c h1 α1 H1 f1 e1 R1=>?_⟩
  cases c with
  |false=>exact T7 (k.nx δ' h1 α1 H1 σ' (by simpa using f1) (e'.trans e1) R1 (S'.mono e1))
  |true =>
   refine Y9 ⟨fun σ2 H2=>∃ α2 δ2 h2,Ext α H α2 H2/\HRel ⟨X.K,π⟩ α2 H2 h2/\RelS ⟨X.K,π⟩ α2 H2 δ2 σ2/\whN t b E m δ2 h2,fun σ2 H2 z=>⟨m,Nat.lt_succ_self m,z⟩,?_⟩;have f1:b { E with nx:=whN t b E m,ct:=whN t b E m,bk:=E.nx } δ' h1:=by simpa using f1
   have k1:=k.mono (e'.trans e1);exact ⟨π,α1,δ',h1,_,R1,S'.mono e1,f1,⟨fun δ2 h2 α2 H2 σ2 a b c d=>⟨α2,δ2,h2,e'.trans (e1.trans b),c,d,a⟩,k1.rt,k1.nx,fun δ2 h2 α2 H2 σ2 a b c d=>⟨α2,δ2,h2,e'.trans (e1.trans b),c,d,a⟩,k1.ex⟩⟩
structure Src where
 items:List D
 w:List (Nat×O)
def Src.ok(S:Src)(h:Hh):Prop:=∀ p ∈ S.w,h[p.1]?=some p.2
theorem Src.ok_nil{xs:List D}{h:Hh}:(Src.mk xs []).ok h:=fun p hp=>nomatch hp
abbrev DI:=Sl->Hh->(Src->Hh->Prop)->Prop
structure b9O(K:KP)(J:It)(S:Src)(St:List Addr->Hp->Prop):Prop where
 keep:∀ α H α' H',St α H->Ext α H α' H'->St α' H'
 priv:∀ α H H' D,St α H->Y8 D H H'->D ∈ K.π->St α H'
 item:∀ α H h i d,HRel K α H h->St α H->S.ok h->S.items[i]?=some d->J.go i H/\∀ x H',J.yld i H x H'->Ext α H α H'/\HRel K α H' h/\RelD K α H' d x
 stop:∀ α H h,HRel K α H h->St α H->S.ok h->J.stop S.items.length H
def ItA(K:PySem.W.Frag)(π:List Addr)(α:List Addr)(H:Hp)(J:It)(S:Src):Prop:=∀ π',(∀ p ∈ π',p ∈ π\/H p=none)->∃ St,b9O ⟨K,π'⟩ J S St/\St α H
inductive LI(K:PySem.W.Frag)(f:DI)(σ:St)(H:Hp)(R:It->Hp->Prop):Prop
 |mk (π:List Addr) (α:List Addr) (δ:Sl) (h:Hh) (Q':Src->Hh->Prop):HRel ⟨K,π⟩ α H h->RelS ⟨K,π⟩ α H δ σ->f δ h Q'->(∀ S h' α' H' J,Q' S h'->Ext α H α' H'->HRel ⟨K,π⟩ α' H' h'->ItA K π α' H' J S->S.ok h'->R J H')->LI K f σ H R
def SI(X:Cx)(tg iter:Expr)(f:DI):Prop:=PI X tg iter (LI X.K f)
def a1G(S:Src)(t:DG)(b:DS)(E:K4):List D->Sl->Hh->Prop
 |[],δ,h=>S.ok h/\E.nx δ h
 |x :: r,δ,h=>S.ok h/\t x δ h fun δ2 h2=>b { E with nx:=a1G S t b E r,ct:=a1G S t b E r,bk:=E.nx } δ2 h2
def O5(s:DI)(t:DG)(b:DS):DS:=fun E δ h=>s δ h fun S h1=>a1G S t b E S.items δ h1
theorem J0{X:Cx}{tg iter:Expr}{body:List Stmt}{s:DI}{t:DG}{b:DS}{pos:Pos}(hp:PassesOwn (model X.prog X.w) X.A X.env X.xe)(hc:X.calm=true)(hi:SI X tg iter s)(hg:SG X tg t)(hb:SSs X body b)
  (hs:∀ x,foldedSetIterable iter X.env x=pure x:=by intro _;rfl):SS X (.For tg iter body [] pos) (O5 s t b):=PS.imp (b4F hp hc hi hg hb hs) fun F σ H ⟨π,α,δ,h,E,R,S,q,k⟩=>by
 refine ⟨π,α,δ,h,_,R,S,q,fun Sr h1 α1 H1 J f1 e1 R1 ia ok1=>?_⟩;obtain ⟨St,io,st1⟩:=ia π (fun p z=>.inl z);refine ⟨fun i m σ' H'=>m=Sr.items.length - i/\i <= Sr.items.length/\∃ α' δ' h',Ext α H α' H'/\HRel ⟨X.K,π⟩ α' H' h'/\RelS ⟨X.K,π⟩ α' H' δ' σ'/\St α' H'/\a1G Sr t b E (Sr.items.drop i) δ' h',⟨_,rfl,Nat.zero_le _,α1,δ,h1,e1,R1,S.mono e1,st1,f1⟩,?_⟩
 rintro i m σ' H' ⟨rfl,hi,α',δ',h',e',R',S',st',q'⟩
 by_cases hlt:i < Sr.items.length
 ·rw [List.drop_eq_getElem_cons hlt] at q';obtain ⟨okh,q'⟩:=q';obtain ⟨go,yl⟩:=io.item α' H' h' i Sr.items[i] R' st' okh (List.getElem?_eq_getElem hlt);refine .inr ⟨go,fun σ2 H2=>∃ α2 δ2 h2,Ext α H α2 H2/\HRel ⟨X.K,π⟩ α2 H2 h2/\RelS ⟨X.K,π⟩ α2 H2 δ2 σ2/\St α2 H2/\a1G Sr t b E (Sr.items.drop (i + 1)) δ2 h2,fun σ2 H2 z=>⟨_,by omega,rfl,hlt,z⟩,fun x H2 y2=>?_⟩;obtain ⟨e2,R2,r2⟩:=yl x H2 y2;refine ⟨π,α',δ',h',Sr.items[i],_,R2,S'.mono e2,r2,q',fun δ3 h3 α3 H3 σ3 f3 e3 R3 S3=>?_⟩;have e4:=e'.trans (e2.trans e3);have k3:=k.mono e4;have st3:=io.keep _ _ _ _ st' (e2.trans e3);exact ⟨π,α3,δ3,h3,_,R3,S3,f3,⟨fun δ5 h5 α5 H5 σ5 a b c d=>⟨α5,δ5,h5,e4.trans b,c,d,io.keep _ _ _ _ st3 b,a⟩,k3.rt,k3.nx,fun δ5 h5 α5 H5 σ5 a b c d=>⟨α5,δ5,h5,e4.trans b,c,d,io.keep _ _ _ _ st3 b,a⟩,k3.ex⟩⟩
 ·have ei:i=Sr.items.length:=by omega
  subst ei;rw [List.drop_length] at q';exact .inl ⟨io.stop α' H' h' R' st' q'.1,k.nx δ' h' α' H' σ' q'.2 e' R' S'⟩
def a0h(js:List (Option Nat))(δ:Sl):Sl:=js.map fun j=>match j with
 |some j=>(δ[j]?).getD none
 |none=>none
def P7(S:Src)(t:DG)(tf:DT)(te:DE):List D->List D->Sl->Hh->(List D->Hh->Prop)->Prop
 |[],acc,_,h,Q=>S.ok h/\Q acc h
 |x :: r,acc,δ,h,Q=>S.ok h/\t x δ h fun δ2 h2=>tf δ2 h2 fun b h3=>if b=true then te δ2 h3 fun y h4=>P7 S t tf te r (acc ++ [y]) δ2 h4 Q else P7 S t tf te r acc δ2 h3 Q
def G4(js:List (Option Nat))(s:DI)(t:DG)(tf:DT)(te:DE):DN:=fun δ h Q=>s δ h fun S h1=>S.items.length <= 16777216/\P7 S t tf te S.items [] (a0h js δ) h1 Q
theorem a5S{K:KP}{α:List Addr}{H:Hp}{δ:Sl}{σ:L2.St}(S:RelS K α H δ σ)(js:List (Option Nat)):RelS K α H (a0h js δ) (P4 js σ):=by
 refine ⟨by unfold a0h P4;simp,fun i d e=>?_⟩;unfold a0h at e;rw [List.getElem?_map] at e;unfold P4;rw [List.getElem?_map]
 cases q:js[i]? with
 |none=>rw [q] at e;cases e
 |some j =>
  rw [q] at e
  cases j with
  |none=>cases e
  |some j =>
   have e:(δ[j]?).getD none=some d:=Option.some.inj e
   cases w:δ[j]? with
   |none=>rw [w] at e;cases e
   |some z =>
    rw [w] at e;have e:z=some d:=e;subst e;obtain ⟨v,h1,h2⟩:=S.get j d w;exact ⟨v,by show some ((σ[j]?).getD none)=_;rw [h1];rfl,h2⟩
theorem a1f{K:PySem.W.Frag}{js:List (Option Nat)}{s:DI}{t:DG}{tf:DT}{te:DE}{σ:L2.St}{H:Hp}{Q:VK}(w:LN K (G4 js s t tf te) σ H Q) :
  a8I js (LI K s) (fun _ _ _=>LG K t) (fun _ _ _=>LT K tf) (fun _ _ _=>LE K te) σ H Q:=by
 obtain ⟨π,α,δ,h,Q',R,S,q,k⟩:=w;refine ⟨π,α,δ,h,_,R,S,q,fun Sr h1 α1 H1 J f1 e1 R1 ia ok1=>fun Da hD s0 H0 fp=>?_⟩;obtain ⟨hlen,f1⟩:=f1
 have sub:∀ p ∈ Da :: π,p ∈ π\/H1 p=none:=fun p hp=>by
  rcases List.mem_cons.mp hp with rfl | z
  ·exact .inr hD
  ·exact .inl z
 obtain ⟨St,io,st1⟩:=ia (Da :: π) sub;have eN:Ext α1 H1 α1 (upd H1 Da (.lst [])):=Ext.new hD;have hin:Da ∈ (KP.mk K (Da :: π)).π:=List.mem_cons_self
 refine ⟨fun i m σ' H'=>m=Sr.items.length - i/\i <= Sr.items.length/\∃ α' δ' h' acc us,Ext α1 H1 α' H'/\HRel ⟨K,Da :: π⟩ α' H' h'/\RelS ⟨K,Da :: π⟩ α' H' δ' σ'/\St α' H'/\H' Da=some (.lst us)/\RelDs ⟨K,Da :: π⟩ α' H' acc us/\acc.length <= i /\
   P7 Sr t tf te (Sr.items.drop i) acc δ' h' Q',⟨_,rfl,Nat.zero_le _,α1,a0h js δ,h1,[],[],eN,R1.under hD,(a5S ((S.mono e1).more sub) js).mono eN,io.keep _ _ _ _ st1 eN,m8,.nil,Nat.le_refl _,f1⟩,?_⟩
 rintro i m σ' H' ⟨rfl,hi,α',δ',h',acc,us,e',R',S',st',hus,ra,la,q'⟩
 have nD:Da ∉ α':=(R'.dis Da hin).1
 by_cases hlt:i < Sr.items.length
 ·rw [List.drop_eq_getElem_cons hlt] at q';obtain ⟨okh,q'⟩:=q';obtain ⟨go,yl⟩:=io.item α' H' h' i Sr.items[i] R' st' okh (List.getElem?_eq_getElem hlt);refine .inr ⟨go,fun x H2 y2=>?_⟩;obtain ⟨e2,R2,r2⟩:=yl x H2 y2;refine ⟨Da :: π,α',δ',h',Sr.items[i],_,R2,S'.mono e2,r2,q',fun δ3 h3 α3 H3 σ3 f3 e3 R3 S3=>?_⟩;refine ⟨Da :: π,α3,δ3,h3,_,R3,S3,f3,fun b h4 α4 H4 f4 e4 R4=>?_⟩;have e24:=e2.trans (e3.trans e4)
  cases b with
  |false =>
   refine T7 ⟨_,by omega,rfl,hlt,α4,δ3,h4,acc,us,e'.trans e24,R4,S3.mono e4,io.keep _ _ _ _ st' e24,e24.keep _ _ hus nD,ra.mono e24,by omega,by simpa using f4⟩
  |true =>
   have f4:te δ3 h4 fun y h5=>P7 Sr t tf te (Sr.items.drop (i + 1)) (acc ++ [y]) δ3 h5 Q':=by simpa using f4
   refine Y9 ⟨Da :: π,α4,δ3,h4,_,R4,S3.mono e4,f4,fun y h5 α5 H5 v5 f5 e5 R5 q5=>?_⟩;have e25:=e24.trans e5;have h5D:H5 Da=some (.lst us):=e25.keep _ _ hus nD;have pv:Y8 Da H5 (upd H5 Da (.lst (us ++ [v5]))):=⟨fun b hb=>p9 hb⟩
   have ra5:=ra.mono e25;refine ⟨us,h5D,by rw [<- ra5.length,sizeLine_eq];omega,_,by omega,rfl,hlt,α5,δ3,h5,acc ++ [y],us ++ [v5],(e'.trans e25).grow hD,R5.priv pv hin (by rw [m8];exact ⟨(fun z=>by cases z),fun _ z=>by cases z⟩),(S3.mono (e4.trans e5)).priv pv hin,io.priv _ _ _ _ (io.keep _ _ _ _ st' e25) pv hin,m8,(ra5.snoc q5).priv pv hin,by rw [List.length_append,List.length_singleton];omega,f5⟩
 ·have ei:i=Sr.items.length:=by omega
  subst ei;rw [List.drop_length] at q';exact .inl ⟨io.stop α' H' h' R' st' q'.1,k _ h' α' H' us Da q'.2 (e1.trans e') R' ra hus (e1.dom Da hD) (R1.outP hD)⟩
def M7:DT:=fun _ h Q=>Q true h
section
variable {X:Cx} {pins:List (Addr×Obj)} {σ:L2.St} {H:Hp} {s:Shared} {N':List Str} {js:List (Option Nat)} {scope:Scope}
def SF(X:Cx)(es:List Expr)(t:DT):Prop:=PF X es (LT X.K t)
theorem PF.imp{es:List Expr}{t t':TT}(h:PF X es t)(k:∀ σ H Q,t' σ H Q->t σ H Q):PF X es t':=fun pins s σ H Q I q=>h pins s σ H Q I (k σ H Q q)
theorem L9:SF X [] M7:=PF.imp b5q fun σ H Q ⟨π,α,δ,h,Q',R,S,f,k⟩=>k true h α H f (Ext.refl ..) R
theorem a0m{c:Expr}{t:DT}(h:ST X c t):SF X [c] t:=b4m h
variable {tg iter elt:Expr} {ifs:List Expr} {pos:Pos} {sr:DI} {g:DG} {tf:DT} {te:DE}
theorem F4(hc:X.calm=true)(C:CompOk X N' js scope)(hi:SI X tg iter sr)
  (body:∀ (s0:Shared) (H0:Hp) (fp:List Addr),SG (v6 X N' scope s0 H0 fp) tg g/\SF (v6 X N' scope s0 H0 fp) ifs tf/\SE (v6 X N' scope s0 H0 fp) elt te)
  (hs:∀ x,foldedSetIterable iter X.env x=pure x:=by intro _;rfl):SN X (.ListComp elt [⟨tg,iter,ifs,0⟩] scope pos) (G4 js sr g tf te) :=
 PE.imp (b1h hc C hi (g:=fun _ _ _=>LG X.K g) (tf:=fun _ _ _=>LT X.K tf) (te:=fun _ _ _=>LE X.K te) body hs) fun _ _ _ w=>a1f w
theorem a1Z{i:Nat}{x:Str}{px cpos:Pos}(hc:X.calm=true)(C:CompOk X N' js scope)(hi:SI X tg iter sr)
  (body:∀ (s0:Shared) (H0:Hp) (fp:List Addr),SG (v6 X N' scope s0 H0 fp) tg g/\SF (v6 X N' scope s0 H0 fp) ifs tf/\SE (v6 X N' scope s0 H0 fp) elt te)
  (hN:X.N.Nodup) (hix:X.N[i]?=some x) (hx:Loc X.env.scope x)
  (hsw:swapsWith (.ListComp elt [⟨tg,iter,ifs,0⟩] scope cpos) (some (.Name x px)) pos.line X.env=pure true:=by rfl) (hf:X.fn x=true\/X.env.scope.names.lookup x=some .local:=by trivial)
  (hs:∀ x,foldedSetIterable iter X.env x=pure x:=by intro _;rfl):SS X (.Assign [.Name x px] (.ListComp elt [⟨tg,iter,ifs,0⟩] scope cpos) pos) (j8 (dV (G4 js sr g tf te)) (d7 i)) :=
 PS.imp (b0T hc C hi (g:=fun _ _ _=>LG X.K g) (tf:=fun _ _ _=>LT X.K tf) (te:=fun _ _ _=>LE X.K te) body hN hix hx hsw hf hs) fun F σ H w=>by
  obtain ⟨π,α,δ,h,E,R,S,q,k⟩:=w;exact a1f (Q:=fun x H1=>a2V i x σ H1 F.nx) ⟨π,α,δ,h,_,R,S,q,fun ds h1 α1 H1 us p f1 e1 R1 q1 hus hp np=>k.nx _ h1 α1 H1 _ f1 e1 R1.less (((S.mono e1)).set i (.lst ⟨(R1.dis p List.mem_cons_self).1,np,hus⟩ (q1.more fun q hq=>.inl (List.mem_cons_of_mem _ hq))))⟩
end
end DL
namespace DL
open PySem PySem.Spec L2
mutual
inductive IsP(h:Hh):D->PyData->Prop
 |non:IsP h .non .none
 |bl (b:Bool):IsP h (.bl b) (.bool b)
 |int (i:Int):IsP h (.int i) (.int i)
 |str (x:Str):IsP h (.str x) (.str x)
 |tup {ds:List D} {ps:List PyData}:a3M h ds ps->IsP h (.tup ds) (.tuple ps)
 |lst {ds:List D} {ps:List PyData}:a3M h ds ps->IsP h (.lst ds) (.list ps)
 |ref {i:Nat} {ds:List D} {ps:List PyData}:h[i]?=some (.lst ds)->a3M h ds ps->IsP h (.ref i) (.list ps)
inductive a3M(h:Hh):List D->List PyData->Prop
 |nil:a3M h [] []
 |cons {d:D} {p:PyData} {ds:List D} {ps:List PyData}:IsP h d p->a3M h ds ps->a3M h (d :: ds) (p :: ps)
end
section
variable {X:Cx} {pins:List (Addr×Obj)} {σ:L2.St} {H:Hp} {s:Shared} {π α:List Addr} {h:Hh}
theorem IsP.reads(I:Inv X pins σ H s)(R:HRel ⟨X.K,π⟩ α H h){d:D}{p:PyData}(e:IsP h d p):∀ {v:V} {u:Value},RelD ⟨X.K,π⟩ α H d v->RelV v u->∃ as,Reads s.heap u p as:=by
 refine IsP.rec (motive_1:=fun d p _=>∀ {v:V} {u:Value},RelD ⟨X.K,π⟩ α H d v->RelV v u->∃ as,Reads s.heap u p as) (motive_2:=fun ds ps _=>∀ {vs:List V} {us:List Value},RelDs ⟨X.K,π⟩ α H ds vs->Vals vs us->∃ as,ReadsAll s.heap us ps as) ?_ ?_ ?_ ?_ ?_ ?_ ?_ ?_ ?_ e
 ·intro v u q r;cases q;cases r;exact ⟨_,.none⟩
 ·intro b v u q r;cases q;cases r;exact ⟨_,.bool b⟩
 ·intro i v u q r;cases q;obtain ⟨t,rfl⟩:=r;exact ⟨_,.int i t⟩
 ·intro x v u q r;cases q;obtain ⟨t,rfl⟩:=r;exact ⟨_,.str x t⟩
 ·intro ds ps _ ih v u q0 r
  cases q0 with
  |tup t rr =>
   cases r;obtain ⟨its,rv,⟨o,q,c,n,d⟩,_⟩:=I.tuple t.sq;obtain ⟨as,ra⟩:=ih rr rv;exact ⟨_,.tuple q c d (by simpa using ra)⟩
 ·intro ds ps _ ih v u q0 r
  cases q0 with
  |lst t rr =>
   cases r;obtain ⟨its,rv,⟨o,n,q,c,_,d⟩,_⟩:=I.list t.sq;obtain ⟨as,ra⟩:=ih rr rv;exact ⟨_,.list q c d (by simpa using ra)⟩
 ·intro i ds ps hh _ ih v u q0 r
  cases q0 with
  |ref hp =>
   cases r;obtain ⟨a,us,e1,e2,e3⟩:=R.lst hh;rw [hp] at e1;cases e1;obtain ⟨its,rv,⟨o,n,q,c,_,d⟩,_⟩:=I.list (SqL.of (K:=X.K) e2);obtain ⟨as,ra⟩:=ih e3 rv;exact ⟨_,.list q c d (by simpa using ra)⟩
 ·intro vs us q r;cases q;cases r;exact ⟨_,.nil⟩
 ·intro d ds p ps _ _ ih iht vs us q r
  cases q with
  |cons rr rs =>
   cases r with
   |cons r1 r2 =>
    obtain ⟨as,ra⟩:=ih rr r1;obtain ⟨bs,rb⟩:=iht rs r2;exact ⟨_,.cons ra rb⟩
end
def eqS:D->D->Option Bool
 |.int i,.int j=>some (i == j)
 |.str a,.str b=>if PyData.strOk a && PyData.strOk b then some (a == b) else none
 |.bl a,.bl b=>some (a == b)
 |.non,.non=>some true
 |.int _,.str b=>if PyData.strOk b then some false else none
 |.str a,.int _=>if PyData.strOk a then some false else none
 |.non,.int _=>some false
 |.int _,.non=>some false
 |.non,.tup _=>none
 |_,_=>none
def pEq(neg:Bool):P2:=fun x y h Q=>match eqS x y with
 |some b=>Q (.bl (if neg then !b else b)) h
 |none=>∃ a b,IsP h x a/\IsP h y b/\SeqAt.shaped a=true/\SeqAt.shaped b=true/\Q (.bl (if neg then !PyData.eqv a b else PyData.eqv a b)) h
theorem b5I{h:Hh}{x y:D}{b:Bool}(e:eqS x y=some b):∃ p q,IsP h x p/\IsP h y q/\SeqAt.shaped p=true/\SeqAt.shaped q=true/\PyData.eqv p q=b:=by
 have si:∀ i:Int,SeqAt.shaped (.int i)=true:=fun i=>by simp [SeqAt.shaped,PyData.canLay0,PyData.depth]
 have sn:SeqAt.shaped .none=true:=by simp [SeqAt.shaped,PyData.canLay0,PyData.depth]
 have sb:∀ b:Bool,SeqAt.shaped (.bool b)=true:=fun i=>by simp [SeqAt.shaped,PyData.canLay0,PyData.depth]
 have ss:∀ x:Str,PyData.strOk x=true->SeqAt.shaped (.str x)=true:=fun x hx=>by simp [SeqAt.shaped,PyData.canLay0,PyData.depth,hx]
 cases x with
 |int i =>
  cases y with
  |int j=>cases e;exact ⟨_,_,.int _,.int _,si _,si _,rfl⟩
  |str t =>
   have e:(if PyData.strOk t=true then some false else none)=some b:=e
   by_cases q:PyData.strOk t=true
   ·rw [if_pos q] at e;cases e;exact ⟨_,_,.int _,.str _,si _,ss _ q,rfl⟩
   ·rw [if_neg q] at e;cases e
  |non=>cases e;exact ⟨_,_,.int _,.non,si _,sn,rfl⟩
  |_=>cases e
 |str a =>
  cases y with
  |int j =>
   have e:(if PyData.strOk a=true then some false else none)=some b:=e
   by_cases q:PyData.strOk a=true
   ·rw [if_pos q] at e;cases e;exact ⟨_,_,.str _,.int _,ss _ q,si _,rfl⟩
   ·rw [if_neg q] at e;cases e
  |str t =>
   have e:(if (PyData.strOk a && PyData.strOk t)=true then some (a == t) else none)=some b:=e
   by_cases q:(PyData.strOk a && PyData.strOk t)=true
   ·rw [if_pos q] at e;rw [Bool.and_eq_true] at q
    cases e;exact ⟨_,_,.str _,.str _,ss _ q.1,ss _ q.2,rfl⟩
   ·rw [if_neg q] at e;cases e
  |_=>cases e
 |bl a =>
  cases y with
  |bl c=>cases e;exact ⟨_,_,.bl _,.bl _,sb _,sb _,rfl⟩
  |_=>cases e
 |non =>
  cases y with
  |non=>cases e;exact ⟨_,_,.non,.non,sn,sn,rfl⟩
  |int j=>cases e;exact ⟨_,_,.non,.int _,sn,si _,rfl⟩
  |_=>cases e
 |_=>cases e
section
variable {X:Cx}
theorem a5a{neg:Bool}{x y:D}{h:Hh}{Q:DK}(f:pEq neg x y h Q):∃ a b,IsP h x a/\IsP h y b/\SeqAt.shaped a=true/\SeqAt.shaped b=true/\Q (.bl (if neg then !PyData.eqv a b else PyData.eqv a b)) h:=by
 unfold pEq at f
 cases q:eqS x y with
 |none=>rw [q] at f;exact f
 |some b =>
  rw [q] at f;obtain ⟨p,q,a,b',c,d,e⟩:=b5I (h:=h) q;exact ⟨p,q,a,b',c,d,by rw [e];exact f⟩
theorem o7(hu:X.A.units + 64 < cLine):OpR X (compareOp .Eq) (r2 X.K (pEq false)):=by
 intro pins s σ H x y v u Q I rx ry ⟨π,α,h,d,e,Q',R,r1,r2,f,k⟩;obtain ⟨a,b,ia,ib,sa,sb,q⟩:=a5a f;obtain ⟨as,ra⟩:=ia.reads I R r1 rx;obtain ⟨bs,rb⟩:=ib.reads I R r2 ry;exact SeqAt.compareEq_shaped ra rb sa sb hu ⟨.bl (PyData.eqv a b),H,I,rfl,k _ h α H _ q (Ext.refl ..) R (.bl _)⟩
theorem E9(hu:X.A.units + 64 < cLine):OpR X (compareOp .NotEq) (r2 X.K (pEq true)):=by
 intro pins s σ H x y v u Q I rx ry ⟨π,α,h,d,e,Q',R,r1,r2,f,k⟩;obtain ⟨a,b,ia,ib,sa,sb,q⟩:=a5a f;obtain ⟨as,ra⟩:=ia.reads I R r1 rx;obtain ⟨bs,rb⟩:=ib.reads I R r2 ry;exact SeqAt.compareNe_shaped ra rb sa sb hu ⟨.bl (!PyData.eqv a b),H,I,rfl,k _ h α H _ q (Ext.refl ..) R (.bl _)⟩
end
structure b8y(K:KP)(Sq:Hp->List V->Prop)(xs:List D)(w:List (Nat×O))(St:List Addr->Hp->Prop):Prop where
 keep:∀ α H α' H',St α H->Ext α H α' H'->St α' H'
 priv:∀ α H H' D,St α H->Y8 D H H'->D ∈ K.π->St α H'
 get:∀ α H h,HRel K α H h->St α H->(∀ p ∈ w,h[p.1]?=some p.2)->∃ us,Sq H us/\RelDs K α H xs us
def a6O(K:PySem.W.Frag)(π α:List Addr)(H:Hp)(Sq:Hp->List V->Prop)(xs:List D)(w:List (Nat×O)):Prop:=∀ π',(∀ p ∈ π',p ∈ π\/H p=none)->∃ St,b8y ⟨K,π'⟩ Sq xs w St/\St α H
def H9(h:Hh):D->Option Src
 |.tup xs=>some ⟨xs,[]⟩
 |.lst xs=>some ⟨xs,[]⟩
 |.scr xs=>some ⟨xs,[]⟩
 |.ref i=>match h[i]? with | some (.lst xs)=>some ⟨xs,[(i,.lst xs)]⟩ | _=>none
 |_=>none
theorem a1l{K:PySem.W.Frag}{π α:List Addr}{H:Hp}{h:Hh}(R:HRel ⟨K,π⟩ α H h){d:D}{v:V}{S:Src}(r:RelD ⟨K,π⟩ α H d v)(e:H9 h d=some S) :
  ∃ a,v = .ref a/\S.ok h/\(((∃ us,SqL K H a us)/\a6O K π α H (fun H us=>SqL K H a us) S.items S.w)\/((∃ us,SqT K H a us)/\a6O K π α H (fun H us=>SqT K H a us) S.items S.w)):=by
 cases r with
 |@tup a us ds t rs =>
  cases e;exact ⟨a,rfl,Src.ok_nil,.inr ⟨⟨us,t.sq⟩,fun π' s=>⟨fun α H=>VT ⟨K,π'⟩ α H a us/\RelDs ⟨K,π'⟩ α H ds us,⟨fun α H α' H' st e=>⟨st.1.mono e,st.2.mono e⟩,fun α H H' D st e hD=>⟨st.1.priv e hD,st.2.priv e hD⟩,fun α H h R st _=>⟨us,st.1.sq,st.2⟩⟩,t.more s,rs.more s⟩⟩⟩
 |@lst a us ds t rs =>
  cases e;exact ⟨a,rfl,Src.ok_nil,.inl ⟨⟨us,t.sq⟩,fun π' s=>⟨fun α H=>VL ⟨K,π'⟩ α H a us/\RelDs ⟨K,π'⟩ α H ds us,⟨fun α H α' H' st e=>⟨st.1.mono e,st.2.mono e⟩,fun α H H' D st e hD=>⟨st.1.priv e hD,st.2.priv e hD⟩,fun α H h R st _=>⟨us,st.1.sq,st.2⟩⟩,t.more s,rs.more s⟩⟩⟩
 |@scr a us ds t rs =>
  cases e;exact ⟨a,rfl,Src.ok_nil,.inl ⟨⟨us,t.sq⟩,fun π' s=>⟨fun α H=>VS ⟨K,π'⟩ α H a us/\RelDs ⟨K,π'⟩ α H ds us,⟨fun α H α' H' st e=>⟨st.1.mono e,st.2.mono e⟩,fun α H H' D st e hD=>⟨st.1.priv e hD,st.2.priv e hD⟩,fun α H h R st _=>⟨us,st.1.sq,st.2⟩⟩,t.more s,rs.more s⟩⟩⟩
 |@ref i a hp =>
  have e:(match h[i]? with | some (.lst xs)=>some (Src.mk xs [(i,.lst xs)]) | _=>none)=some S:=e
  cases q:h[i]? with
  |none=>rw [q] at e;cases e
  |some o =>
   rw [q] at e
   cases o with
   |lst xs =>
    cases e;obtain ⟨p,us,e1,e2,e3⟩:=R.lst q;rw [hp] at e1;cases e1;refine ⟨a,rfl,fun z hz=>by rw [List.mem_singleton.mp hz];exact q,.inl ⟨⟨us,SqL.of e2⟩,fun π' s=>⟨fun α H=>α[i]?=some a,⟨fun α H α' H' st e=>e.get st,fun α H H' D st e hD=>st,fun α H h R st w=>?_⟩,hp⟩⟩⟩;obtain ⟨p,us,e1,e2,e3⟩:=R.lst (w (i,.lst xs) (List.mem_singleton.mpr rfl));rw [st] at e1;cases e1;exact ⟨us,SqL.of e2,e3⟩
   |_=>cases e
 |_=>cases e
theorem b2c{K:PySem.W.Frag}{π α:List Addr}{H:Hp}{a:Addr}{S:Src}(s:a6O K π α H (fun H us=>SqL K H a us) S.items S.w):ItA K π α H (Itl K a) S:=fun π' sub=>by
 obtain ⟨St,si,st⟩:=s π' sub;refine ⟨St,⟨si.keep,si.priv,fun α H h i d R st ok hi=>?_,fun α H h R st ok=>?_⟩,st⟩
 ·obtain ⟨us,hq,rs⟩:=si.get α H h R st ok;obtain ⟨u,hu,ru⟩:=rs.get hi;refine ⟨⟨us,u,hq,hu⟩,fun x H' ⟨e1,e2⟩=>?_⟩;subst e1
  have:=(e2 us hq).symm.trans hu
  cases this;exact ⟨Ext.refl ..,R,ru⟩
 ·obtain ⟨us,hq,rs⟩:=si.get α H h R st ok;exact ⟨us,hq,by rw [<- rs.length];exact Nat.le_refl _⟩
theorem b5R{K:PySem.W.Frag}{π α:List Addr}{H:Hp}{a:Addr}{S:Src}(s:a6O K π α H (fun H us=>SqT K H a us) S.items S.w):ItA K π α H (Itt K a) S:=fun π' sub=>by
 obtain ⟨St,si,st⟩:=s π' sub;refine ⟨St,⟨si.keep,si.priv,fun α H h i d R st ok hi=>?_,fun α H h R st ok=>?_⟩,st⟩
 ·obtain ⟨us,hq,rs⟩:=si.get α H h R st ok;obtain ⟨u,hu,ru⟩:=rs.get hi;refine ⟨⟨us,u,hq,hu⟩,fun x H' ⟨e1,e2⟩=>?_⟩;subst e1
  have:=(e2 us hq).symm.trans hu
  cases this;exact ⟨Ext.refl ..,R,ru⟩
 ·obtain ⟨us,hq,rs⟩:=si.get α H h R st ok;exact ⟨us,hq,by rw [<- rs.length];exact Nat.le_refl _⟩
def M5:Int->List D->List D
 |_,[]=>[]
 |n,x :: r=>.tup [.int n,x] :: M5 (n + 1) r
theorem W3:∀ (n:Int) (xs:List D) (i:Nat),(M5 n xs)[i]?=(xs[i]?).map fun x=>.tup [.int (n + i),x]
 |n,[],i=>by simp [M5]
 |n,x :: r,0=>by simp [M5]
 |n,x :: r,i + 1=>by
  have:=W3 (n + 1) r i
  simp only [M5,List.getElem?_cons_succ,this]
  congr 1;funext y;congr 3;push_cast;omega
theorem U1:∀ (n:Int) (xs:List D),(M5 n xs).length=xs.length
 |_,[]=>rfl
 |n,x :: r=>by simp [M5,U1 (n + 1) r]
theorem a4Y{K:PySem.W.Frag}{π α:List Addr}{H:Hp}{Sq:Hp->List V->Prop}{S:Src}(s:a6O K π α H Sq S.items S.w):ItA K π α H (Ite Sq) ⟨M5 0 S.items,S.w⟩:=fun π' sub=>by
 obtain ⟨St,si,st⟩:=s π' sub;refine ⟨St,⟨si.keep,si.priv,fun α H h i d R st ok hi=>?_,fun α H h R st ok=>?_⟩,st⟩
 ·rw [W3] at hi
  cases q:S.items[i]? with
  |none=>rw [q] at hi;cases hi
  |some y =>
   rw [q] at hi;cases hi;obtain ⟨us,hq,rs⟩:=si.get α H h R st ok;obtain ⟨u,hu,ru⟩:=rs.get q;refine ⟨⟨us,u,hq,hu⟩,fun x H' ⟨T,v,e0,hT,e1,e2⟩=>?_⟩;subst e0 e1
   have:=(e2 us hq).symm.trans hu
   obtain rfl:=Option.some.inj this
   have e3:Ext α H α (upd H T (.tup [.int (i:Nat),v])):=Ext.new hT;refine ⟨e3,R.new hT,.tup ⟨R.out hT,R.outP hT,m8⟩ (.cons ?_ (.cons (ru.mono e3) .nil))⟩;rw [Int.zero_add];exact .int _
 ·obtain ⟨us,hq,rs⟩:=si.get α H h R st ok;exact ⟨us,hq,by rw [U1,rs.length]⟩
def E4(lo:Int):Nat->List D
 |0=>[]
 |n + 1=>.int lo :: E4 (lo + 1) n
theorem T5:∀ (lo:Int) (n i:Nat),(E4 lo n)[i]?=if i < n then some (.int (lo + i)) else none
 |lo,0,i=>by simp [E4]
 |lo,n + 1,0=>by simp [E4]
 |lo,n + 1,i + 1=>by
  have:=T5 (lo + 1) n i
  simp only [E4,List.getElem?_cons_succ,this,Nat.add_lt_add_iff_right];have e:lo + 1 + (i:Int)=lo + ((i + 1:Nat):Int):=by push_cast;omega
  rw [e]
theorem w4:∀ (lo:Int) (n:Nat),(E4 lo n).length=n
 |_,0=>rfl
 |lo,n + 1=>by simp [E4,w4 (lo + 1) n]
theorem a7H{K:PySem.W.Frag}{π α:List Addr}{H:Hp}{lo:Int}{n:Nat}:ItA K π α H (Itr lo n) ⟨E4 lo n,[]⟩:=fun π' sub=>by
 refine ⟨fun _ _=>True,⟨fun _ _ _ _ _ _=>trivial,fun _ _ _ _ _ _ _=>trivial,fun α H h i d R st ok hi=>?_,fun α H h R st ok=>?_⟩,trivial⟩
 ·have hi:(E4 lo n)[i]?=some d:=hi;rw [T5] at hi
  split at hi
  ·rename_i hlt;cases hi;exact ⟨hlt,fun x H' ⟨e1,e2⟩=>by subst e1 e2;exact ⟨Ext.refl ..,R,.int _⟩⟩
  ·cases hi
 ·show n <= (E4 lo n).length;rw [w4];exact Nat.le_refl _
def G2(f:DE):DI:=fun δ h Q=>f δ h fun d h1=>match H9 h1 d with | some S=>Q S h1 | none=>False
def a7R(f:DA):DI:=fun δ h Q=>f δ h fun ds h1=>match ds with | [d]=>(match H9 h1 d with | some S=>Q ⟨M5 0 S.items,S.w⟩ h1 | none=>False) | _=>False
def F5(f:DA):DI:=fun δ h Q=>f δ h fun ds h1=>match ds with
 |[.int j]=>(-(2 ^ 62) <= j/\j < 2 ^ 62)/\Q ⟨E4 0 j.toNat,[]⟩ h1
 |[.int i,.int j]=>(-(2 ^ 62) <= i/\i < 2 ^ 62/\-(2 ^ 62) <= j/\j < 2 ^ 62)/\Q ⟨E4 i (j - i).toNat,[]⟩ h1
 |_=>False
section
variable {X:Cx} {tg:Expr}
theorem PI.imp{e:Expr}{t t':TI}(h:PI X tg e t)(k:∀ σ H Q,t' σ H Q->t σ H Q):PI X tg e t':=fun pins s σ H Q I q=>h pins s σ H Q I (k σ H Q q)
def b9M(K:PySem.W.Frag)(tl:TE):TI:=fun σ H R=>tl σ H fun x H1=>∃ a,x = .ref a/\(((∃ xs,SqL K H1 a xs)/\R (Itl K a) H1)\/((∃ xs,SqT K H1 a xs)/\R (Itt K a) H1))
theorem b4l{l:Expr}{tl:TE}(hl:PE X l tl):PI X tg l (b9M X.K tl):=by
 intro pins s σ H R I h;refine thn (hl pins s σ H _ I h) fun v s1 zz0=>?_;obtain ⟨x,H1,I1,r1,q1⟩:=zz0;obtain ⟨a,e,⟨⟨xs,hq⟩,q⟩ | ⟨⟨xs,hq⟩,q⟩⟩:=q1
 ·subst e;cases r1;obtain ⟨its,rv,p,hz⟩:=I1.list hq;refine wpAny_pyIter_list p.isList ?_;refine ⟨s1.heap.objs.size,[s1.heap.objs.size],_,_,H1,rfl,I1.kept (t':=s1.toks) fun b o e=>Heap.get?_push_of_some _ e,a5A a _,⟨_,Heap.get?_push_size _ rfl,rfl,rfl⟩,fun b hb=>?_,q⟩;have e:b=s1.heap.objs.size:=by simpa using hb
  subst e;exact I1.fpOk (Nat.le_refl _) (I1.hok.fresh (Nat.le_refl _))
 ·subst e;cases r1;obtain ⟨its,rv,p,hz⟩:=I1.tuple hq;refine wpAny_pyIter_tuple (show s1.heap.IsTuple a its.toArray from p) ?_;refine ⟨s1.heap.objs.size,[s1.heap.objs.size],_,_,H1,rfl,I1.kept (t':=s1.toks) fun b o e=>Heap.get?_push_of_some _ e,a3Y a _,⟨_,Heap.get?_push_size _ rfl,rfl,rfl⟩,fun b hb=>?_,q⟩;have e:b=s1.heap.objs.size:=by simpa using hb
  subst e;exact I1.fpOk (Nat.le_refl _) (I1.hok.fresh (Nat.le_refl _))
theorem B9{l:Expr}{f:DE}(hl:SE X l f):SI X tg l (G2 f):=PI.imp (b4l hl) fun σ H Q zz0=>by
 obtain ⟨π,α,δ,h,Q',R,S,f,k⟩:=zz0;refine ⟨π,α,δ,h,_,R,S,f,fun d h1 α1 H1 v1 f1 e1 R1 q1=>?_⟩
 cases q:H9 h1 d with
 |none=>rw [q] at f1;exact f1.elim
 |some Sr =>
  rw [q] at f1;obtain ⟨a,rfl,ok,⟨hu,sa⟩ | ⟨hu,sa⟩⟩:=a1l R1 q1 q
  ·exact ⟨a,rfl,.inl ⟨hu,k Sr h1 α1 H1 _ f1 e1 R1 (b2c sa) ok⟩⟩
  ·exact ⟨a,rfl,.inr ⟨hu,k Sr h1 α1 H1 _ f1 e1 R1 (b5R sa) ok⟩⟩
def b4K(K:PySem.W.Frag)(ta:TA):TI:=fun σ H R=>ta σ H fun vs H1=>∃ a,vs=[.ref a]/\(((∃ xs,SqL K H1 a xs)/\R (Ite fun H xs=>SqL K H a xs) H1)\/((∃ xs,SqT K H1 a xs)/\R (Ite fun H xs=>SqT K H a xs) H1))
theorem a6r{a:Expr}{ta:TA}{p pos:Pos}(hg:Gl X "enumerate")(hm:X.mg "enumerate" = none)(ha:PA X [a] ta)(htg:∃ es x1 pos,tg = .Tuple es x1 pos:=by exact ⟨_,_,_,rfl⟩)(hs:starEach [a] X.env=[(false,eval a X.env)]:=by rfl):PI X tg (.Call (.Name "enumerate" p) [a] [] pos) (b4K X.K ta):=by
 intro pins s σ H R I h;refine PyProof.Rows.Call_ (M1 I hg hm PyProof.Rows.boot_enumerate (PyProof.Rows.callWith_type1 (thn (ha pos pins s σ H _ I h) fun us s1 ⟨vs,H1,I1,r1,q1⟩=>?_) hs rfl));obtain ⟨a,e,⟨⟨xs,hq⟩,q⟩ | ⟨⟨xs,hq⟩,q⟩⟩:=q1
 ·subst e;obtain ⟨u,rfl,ru⟩:=O8 r1;cases ru;obtain ⟨its,rv,p,hz⟩:=I1.list hq;exact call_enumerate_list p.isList fun h' he hit _ hk=>a2y htg I1 (a8b a _) he hit hk q
 ·subst e;obtain ⟨u,rfl,ru⟩:=O8 r1;cases ru;obtain ⟨its,rv,p,hz⟩:=I1.tuple hq;exact O6 (show s1.heap.IsTuple a its.toArray from p) fun h' he hit _ hk=>a2y htg I1 (b0P a _) he hit hk q
theorem b0F{a:Expr}{n:Nat}{fs:DA}{p pos:Pos}(hg:Gl X "enumerate")(hm:X.mg "enumerate" = none)(ha:SA X [a] n fs)(htg:∃ es x1 pos,tg = .Tuple es x1 pos:=by exact ⟨_,_,_,rfl⟩)(hs:starEach [a] X.env=[(false,eval a X.env)]:=by rfl):SI X tg (.Call (.Name "enumerate" p) [a] [] pos) (a7R fs):=PI.imp (a6r hg hm ha htg hs) fun σ H Q zz0=>by
 obtain ⟨π,α,δ,h,Q',R,S,f,k⟩:=zz0;refine ⟨π,α,δ,h,_,R,S,f,fun ds h1 α1 H1 vs f1 e1 R1 q1 l1=>?_⟩
 split at f1
 ·rename_i d;obtain ⟨v,rfl,q3⟩:=q1.inv1
  cases q:H9 h1 d with
  |none=>rw [q] at f1;exact f1.elim
  |some Sr =>
   rw [q] at f1;obtain ⟨a,rfl,ok,⟨hu,sa⟩ | ⟨hu,sa⟩⟩:=a1l R1 q3 q
   ·exact ⟨a,rfl,.inl ⟨hu,k ⟨M5 0 Sr.items,Sr.w⟩ h1 α1 H1 _ f1 e1 R1 (a4Y sa) ok⟩⟩
   ·exact ⟨a,rfl,.inr ⟨hu,k ⟨M5 0 Sr.items,Sr.w⟩ h1 α1 H1 _ f1 e1 R1 (a4Y sa) ok⟩⟩
 ·exact f1.elim
theorem B0{a:Expr}{n:Nat}{fs:DA}{p pos:Pos}(hg:Gl X "range")(hm:X.mg "range" = none)(ha:SA X [a] n fs)(hs:starEach [a] X.env=[(false,eval a X.env)]:=by rfl)(hn:n=1:=by rfl):SI X tg (.Call (.Name "range" p) [a] [] pos) (F5 fs):=PI.imp (a5q hg hm ha hs) fun σ H Q zz0=>by
 obtain ⟨π,α,δ,h,Q',R,S,f,k⟩:=zz0;refine ⟨π,α,δ,h,_,R,S,f,fun ds h1 α1 H1 vs f1 e1 R1 q1 l1=>?_⟩
 split at f1
 ·obtain ⟨v,rfl,q3⟩:=q1.inv1
  cases q3 with
  |int=>exact ⟨_,rfl,f1.1.1,f1.1.2,k _ h1 α1 H1 _ f1.2 e1 R1 a7H Src.ok_nil⟩
 ·subst hn;cases l1
 ·exact f1.elim
end
end DL
namespace DL
open PySem PySem.Spec L2
def dCB(p:PN)(f:DA):DE:=fun δ h Q=>f δ h fun ds h1=>p ds h1 Q
theorem a4O{K:PySem.W.Frag}{p:PN}{n:Nat}{f:DA}{σ:L2.St}{H:Hp}{Q:VK}(g:LE K (dCB p f) σ H Q):LA K n f σ H fun vs H1=>rN K p vs H1 Q:=by
 obtain ⟨π,α,δ,h,Q',R,S,f,k⟩:=g;exact ⟨π,α,δ,h,_,R,S,f,fun ds h1 α1 H1 vs f1 e1 R1 q1 l1=>⟨π,α1,h1,ds,Q',R1,q1,f1,fun d h' α' H' v a b c d'=>k d h' α' H' v a (e1.trans b) c d'⟩⟩
section
variable {X:Cx} {x:Str} {p pos:Pos} {e:Expr} {es:List Expr} {n:Nat} {f:DA} {id T:String} {r:PN}
theorem f9(hc:CallR X (.builtin id) (rN X.K r))(hg:Gl X x)(hm:X.mg x=none)(hv:bootBuiltins x=some (.builtin id))(ha:SA X (e :: es) n f)(hn:x ≠ "__name__":=by decide)(hdb:(x == ("__debug__":Str))=false:=by decide)
  (he:starEach (e :: es) X.env=(false,eval e X.env) :: starEach es X.env:=by rfl) (hpl:(backTo pos (starEach es X.env)).any (·.1)=false:=by rfl):SE X (.Call (.Name x p) (e :: es) [] pos) (dCB r f) :=
 PE.imp (V2 hc hg hm hv ha hn hdb he hpl) fun _ _ _ g=>a4O g
theorem z7(hc:CallR X (.type T) (rN X.K r))(hg:Gl X x)(hm:X.mg x=none)(hv:bootBuiltins x=some (.type T))(ha:SA X (e :: es) n f)(hn:x ≠ "__name__":=by decide)(hdb:(x == ("__debug__":Str))=false:=by decide)
  (he:starEach (e :: es) X.env=(false,eval e X.env) :: starEach es X.env:=by rfl) (hpl:(backTo pos (starEach es X.env)).any (·.1)=false:=by rfl):SE X (.Call (.Name x p) (e :: es) [] pos) (dCB r f) :=
 PE.imp (Q0 hc hg hm hv ha hn hdb he hpl) fun _ _ _ g=>a4O g
def a2Z(h:Hh):D->Option Nat
 |.str x=>if x.length <= 16777216 then some x.length else none
 |d=>(K7 h d).map List.length
def A0:PN:=fun ds h Q=>match ds with | [d]=>(match a2Z h d with | some n=>Q (.int n) h | none=>False) | _=>False
theorem n8:CallR X (.builtin "len") (rN X.K A0):=CallR.imp a6G fun xs H Q zz0=>by
 obtain ⟨π,α,h,ds,Q',R,rs,f,k⟩:=zz0;unfold A0 at f
 split at f
 ·rename_i d;obtain ⟨v,rfl,rd⟩:=rs.inv1
  cases q:a2Z h d with
  |none=>rw [q] at f;exact f.elim
  |some n =>
   rw [q] at f;refine ⟨v,n,rfl,?_,k _ h α H _ f (Ext.refl ..) R (.int _)⟩
   by_cases z:∃ x,d = .str x
   ·obtain ⟨x,rfl⟩:=z;cases rd;have q:(if x.length <= 16777216 then some x.length else none)=some n:=q
    split at q
    ·rename_i hl;cases q;exact ⟨by rw [sizeLine_eq];exact hl,rfl⟩
    ·cases q
   ·have q':(K7 h d).map List.length=some n:=by
     cases d with
     |str x=>exact absurd ⟨x,rfl⟩ z
     |_=>exact q
    cases w:K7 h d with
    |none=>rw [w] at q';cases q'
    |some ys =>
     rw [w] at q'
     cases q'
     obtain ⟨p,us,rfl,b,c⟩:=a0e R rd w
     rcases b with b | b
     ·exact .inl ⟨us,b,c.length⟩
     ·exact .inr ⟨us,b,c.length⟩
 ·exact f.elim
def a1r:PN:=fun ds h Q=>match ds with | [d]=>(match K7 h d with | some xs=>Q (.tup xs) h | none=>False) | _=>False
theorem a3b:CallR X (.type "tuple") (rN X.K a1r):=CallR.imp a0I fun xs H Q zz0=>by
 obtain ⟨π,α,h,ds,Q',R,rs,f,k⟩:=zz0;unfold a1r at f
 split at f
 ·rename_i d;obtain ⟨v,rfl,rd⟩:=rs.inv1
  cases w:K7 h d with
  |none=>rw [w] at f;exact f.elim
  |some ys =>
   rw [w] at f
   by_cases z:∃ x,d = .tup x
   ·obtain ⟨x,rfl⟩:=z;cases w
    cases rd with
    |tup t r=>exact ⟨_,_,rfl,.inr ⟨t.sq,k _ h α H _ f (Ext.refl ..) R (.tup t r)⟩⟩
   ·have w':w6 h d=some ys:=by
     cases d with
     |tup x=>exact absurd ⟨x,rfl⟩ z
     |lst x=>exact w
     |scr x=>exact w
     |ref x=>exact w
     |_=>cases w
    obtain ⟨p,us,rfl,b,c⟩:=Z8 R rd w';refine ⟨p,us,rfl,.inl ⟨b,fun l hl=>?_⟩⟩;have e2:Ext α H α (upd H l (.tup us)):=Ext.new hl;exact k _ h α _ _ f e2 (R.new hl) (.tup ⟨R.out hl,R.outP hl,m8⟩ (c.mono e2))
 ·exact f.elim
def a5e(f:DA):DN:=fun δ h Q=>f δ h fun ds h1=>match ds with | [d]=>(match K7 h1 d with | some xs=>Q xs h1 | none=>False) | _=>False
theorem b1c(hg:Gl X "list")(hm:X.mg "list" = none)(ha:SA X (e :: es) n f)(he:starEach (e :: es) X.env=(false,eval e X.env) :: starEach es X.env:=by rfl)(hpl:(backTo pos (starEach es X.env)).any (·.1)=false:=by rfl) :
  SN X (.Call (.Name "list" p) (e :: es) [] pos) (a5e f):=PE.imp (Q0 a2a hg hm PyProof.Rows.boot_list ha (by decide) (by decide) he hpl) fun σ H Q ⟨π,α,δ,h,Q',R,S,f,k⟩=>by
 refine ⟨π,α,δ,h,_,R,S,f,fun ds h1 α1 H1 vs f1 e1 R1 q1 l1=>?_⟩
 split at f1
 ·rename_i d;obtain ⟨v,rfl,rd⟩:=q1.inv1
  cases w:K7 h1 d with
  |none=>rw [w] at f1;exact f1.elim
  |some ys =>
   rw [w] at f1;obtain ⟨p,us,rfl,b,c⟩:=a0e R1 rd w;exact ⟨p,us,rfl,b,fun l hl=>LN.last (h:=h) k f1 e1 R1 c hl⟩
 ·exact f1.elim
def W5:PN:=fun ds h Q=>match ds with | [.int i]=>Q (.int i) h | [.bl b]=>Q (.int (if b then 1 else 0)) h | _=>False
theorem J8:CallR X (.type "int") (rN X.K W5):=CallR.imp a5Y fun xs H Q zz0=>by
 obtain ⟨π,α,h,ds,Q',R,rs,f,k⟩:=zz0;unfold W5 at f
 split at f
 ·obtain ⟨v,rfl,rd⟩:=rs.inv1;cases rd;exact .inl ⟨_,rfl,k _ h α H _ f (Ext.refl ..) R (.int _)⟩
 ·obtain ⟨v,rfl,rd⟩:=rs.inv1;cases rd;exact .inr ⟨_,rfl,k _ h α H _ f (Ext.refl ..) R (.int _)⟩
 ·exact f.elim
def a0D:PN:=fun ds h Q=>match ds with | [.int i,.int j]=>Q (.int (if j < i then j else i)) h | _=>False
def b1v:PN:=fun ds h Q=>match ds with | [.int i,.int j]=>Q (.int (if j > i then j else i)) h | _=>False
def b2q:PN:=fun ds h Q=>match ds with | [.int i]=>Q (.int (if i < 0 then -i else i)) h | _=>False
theorem P3(hc:X.calm=true):CallR X (.builtin "min") (rN X.K a0D):=CallR.imp (a5B hc) fun xs H Q zz0=>by
 obtain ⟨π,α,h,ds,Q',R,rs,f,k⟩:=zz0;unfold a0D at f
 split at f
 ·obtain ⟨v,w,rfl,rd,re⟩:=rs.inv2
  cases rd;cases re;exact ⟨_,_,rfl,k _ h α H _ f (Ext.refl ..) R (.int _)⟩
 ·exact f.elim
theorem a9h(hc:X.calm=true):CallR X (.builtin "max") (rN X.K b1v):=CallR.imp (a5p hc) fun xs H Q zz0=>by
 obtain ⟨π,α,h,ds,Q',R,rs,f,k⟩:=zz0;unfold b1v at f
 split at f
 ·obtain ⟨v,w,rfl,rd,re⟩:=rs.inv2
  cases rd;cases re;exact ⟨_,_,rfl,k _ h α H _ f (Ext.refl ..) R (.int _)⟩
 ·exact f.elim
theorem a8H:CallR X (.builtin "abs") (rN X.K b2q):=CallR.imp a7b fun xs H Q zz0=>by
 obtain ⟨π,α,h,ds,Q',R,rs,f,k⟩:=zz0;unfold b2q at f
 split at f
 ·obtain ⟨v,rfl,rd⟩:=rs.inv1;cases rd;exact ⟨_,rfl,k _ h α H _ f (Ext.refl ..) R (.int _)⟩
 ·exact f.elim
end
section
variable {X:Cx} {o e:Expr} {fo fe:DE} {fs:DA} {n:Nat} {apos cpos:Pos}
def b3m(fo:DE):DE:=fun δ h Q=>fo δ h fun d h1=>match d with | .int i=>Q (.int (Builtin.Int.intBits i:Nat)) h1 | _=>False
theorem b0x(ho:SE X o fo)(hbase:attributeBase o "bit_length" X.env (eval o X.env)=eval o X.env:=by rfl)(hline:(apos.endLine == cpos.line)=true:=by rfl):SE X (.Call (.Attribute o "bit_length" apos) [] [] cpos) (b3m fo) :=
 PE.imp (a7K PySem.F.plainAttrs_int PySem.F.slot_int_bit_length PySem.F.type_int_bit_length b1a ho hbase hline) fun σ H Q zz0=>by
  obtain ⟨π,α,δ,h,Q',R,S,f,k⟩:=zz0;refine ⟨π,α,δ,h,_,R,S,f,fun d h1 α1 H1 v1 f1 e1 R1 q1=>?_⟩
  cases q1 with
  |int i=>exact ⟨rfl,i,rfl,rfl,k _ h1 α1 H1 _ f1 e1 R1 (.int _)⟩
  |_=>exact f1.elim
def B6(fo:DE)(fs:DA):DE:=fun δ h Q=>fo δ h fun d h1=>match d with
 |.ref i=>(match h1[i]? with
  |some (.lst _)=>fs δ h1 fun ds h2=>(match ds,h2[i]? with
   |[v],some (.lst ys)=>ys.length < 16777216/\Q .non (h2.set i (.lst (ys ++ [v])))
   |_,_=>False)
  |_=>False)
 |_=>False
theorem a3q{K:PySem.W.Frag}{π α:List Addr}{H:Hp}{h:Hh}(R:HRel ⟨K,π⟩ α H h){i:Nat}{a:Addr}{xs:List D}(hp:α[i]?=some a)(w:h[i]?=some (.lst xs)):∃ us,H a=some (.lst us)/\RelDs ⟨K,π⟩ α H xs us:=by
 obtain ⟨p,us,e1,e2,e3⟩:=R.lst w;rw [hp] at e1;cases e1;exact ⟨us,e2,e3⟩
theorem z5(ho:SE X o fo)(ha:SA X [e] n fs)(hbase:attributeBase o "append" X.env (eval o X.env)=eval o X.env:=by rfl)
  (hfew:((backTo cpos (starEach [e] X.env)).all (fun x=>!x.1) && (backToKw cpos (keywordEach [] X.env)).all (fun x=>x.1.isSome)
   && decide ([e].length + ([]:List Keyword).length + (if ([]:List Keyword).isEmpty then 0 else 1) < 30))=true:=by rfl)
  (hline:(apos.endLine == cpos.line)=true:=by rfl) (hs:starEach [e] X.env=(false,eval e X.env) :: starEach [] X.env:=by rfl) (hplain:(backTo cpos (starEach [] X.env)).any (·.1)=false:=by rfl) :
  SE X (.Call (.Attribute o "append" apos) [e] [] cpos) (B6 fo fs) :=
 PE.imp (b3l PySem.F.plainAttrs_list PySem.F.slot_list_append PySem.F.type_list_append a5u ho ha hbase hfew hline hs hplain) fun σ H Q zz0=>by
  obtain ⟨π,α,δ,h,Q',R,S,f,k⟩:=zz0;refine ⟨π,α,δ,h,_,R,S,f,fun d h1 α1 H1 v1 f1 e1 R1 q1=>?_⟩
  cases q1 with
  |@ref i a hp =>
   dsimp only at f1
   cases w:h1[i]? with
   |none=>rw [w] at f1;exact f1.elim
   |some ob =>
    rw [w] at f1
    cases ob with
    |lst xs =>
     obtain ⟨us,e2,e3⟩:=a3q R1 hp w;refine ⟨.inl ⟨rfl,us,SqL.of e2⟩,π,α1,δ,h1,_,R1,S.mono e1,f1,fun ds h2 α2 H2 vs f2 e2 R2 q2 l2=>?_⟩
     split at f2
     ·rename_i v ys w2;obtain ⟨u,rfl,q9⟩:=q2.inv1;have hp2:=e2.get hp;obtain ⟨us2,g2,g3⟩:=a3q R2 hp2 w2;have e4:Ext α2 H2 α2 (upd H2 a (.lst (us2 ++ [u]))):=Ext.write (List.mem_of_getElem? hp2);exact ⟨a,us2,u,rfl,rfl,g2,by rw [<- g3.length,sizeLine_eq];exact f2.1,k _ _ α2 _ _ f2.2 (e1.trans (e2.trans e4)) (R2.write hp2 (.lst m8 ((g3.snoc q9).mono e4))) .non⟩
     ·exact f2.elim
    |_=>exact f1.elim
  |_=>exact f1.elim
def b5s(fo:DE):DE:=fun δ h Q=>fo δ h fun d h1=>match d with
 |.ref i=>(match h1[i]? with
  |some (.lst xs)=>(match xs[xs.length - 1]? with | some y=>Q y (h1.set i (.lst xs.dropLast)) | none=>False)
  |_=>False)
 |_=>False
theorem a8J(ho:SE X o fo)(hbase:attributeBase o "pop" X.env (eval o X.env)=eval o X.env:=by rfl)(hline:(apos.endLine == cpos.line)=true:=by rfl):SE X (.Call (.Attribute o "pop" apos) [] [] cpos) (b5s fo) :=
 PE.imp (a7K PySem.F.plainAttrs_list PySem.F.slot_list_pop PySem.F.type_list_pop b4U ho hbase hline) fun σ H Q zz0=>by
  obtain ⟨π,α,δ,h,Q',R,S,f,k⟩:=zz0;refine ⟨π,α,δ,h,_,R,S,f,fun d h1 α1 H1 v1 f1 e1 R1 q1=>?_⟩
  cases q1 with
  |@ref i a hp =>
   dsimp only at f1
   cases w:h1[i]? with
   |none=>rw [w] at f1;exact f1.elim
   |some ob =>
    rw [w] at f1
    cases ob with
    |lst xs =>
     dsimp only at f1;obtain ⟨us,e2,e3⟩:=a3q R1 hp w
     cases y:xs[xs.length - 1]? with
     |none=>rw [y] at f1;exact f1.elim
     |some z =>
      rw [y] at f1;obtain ⟨u,g1,g2⟩:=e3.get y;have e4:Ext α1 H1 α1 (upd H1 a (.lst us.dropLast)):=Ext.write (List.mem_of_getElem? hp);exact ⟨.inl ⟨rfl,us,SqL.of e2⟩,a,us,u,rfl,rfl,e2,by rw [<- e3.length];exact g1,k _ _ α1 _ _ f1 (e1.trans e4) (R1.write hp (.lst m8 (e3.dropLast.mono e4))) (g2.mono e4)⟩
    |_=>exact f1.elim
  |_=>exact f1.elim
def b9p(fo:DE):DE:=fun δ h Q=>fo δ h fun d h1=>match d with
 |.ref i=>(match h1[i]? with | some (.lst _)=>Q .non (h1.set i (.lst [])) | _=>False)
 |_=>False
end
abbrev DSp:=List D->Hh->DK->Prop
inductive spD(K:PySem.W.Frag)(n:Nat)(g:DSp)(vs:List V)(H:Hp)(Q:VK)(X9:XK):Prop
 |mk (π:List Addr) (α:List Addr) (h:Hh) (ds:List D) (Q':DK):HRel ⟨K,π⟩ α H h->RelDs ⟨K,π⟩ α H ds vs->ds.length=n->g ds h Q'->(∀ d h' α' H' v,Q' d h'->Ext α H α' H'->HRel ⟨K,π⟩ α' H' h'->RelD ⟨K,π⟩ α' H' d v->Q v H')->spD K n g vs H Q X9
def l8(g:DSp)(f:DA):DE:=fun δ h Q=>f δ h fun ds h1=>g ds h1 Q
section
variable {X:Cx} {k m:Nat} {ps:List Str} {g:DSp} {x:Str} {p pos:Pos} {e:Expr} {es:List Expr} {n:Nat} {f:DA}
theorem f7(c:Cal X.prog X.w X.K X.mg X.base k x ps (spD X.K m g))(hr:Room k X.A)(hg:Gl X x)(ha:SA X (e :: es) n f)(hn:n=m:=by rfl)(hdb:(x == ("__debug__":Str))=false:=by decide)
  (he:starEach (e :: es) X.env=(false,eval e X.env) :: starEach es X.env:=by rfl) (hpl:(backTo pos (starEach es X.env)).any (·.1)=false:=by rfl):SE X (.Call (.Name x p) (e :: es) [] pos) (l8 g f) :=
 PE.imp (b3Z c hr hg ha hdb he hpl) fun σ H Q zz0=>by
  obtain ⟨π,α,δ,h,Q',R,S,f,k⟩:=zz0;refine ⟨π,α,δ,h,_,R,S,f,fun ds h1 α1 H1 vs f1 e1 R1 q1 l1=>?_⟩;show spD X.K m g (vs ++ []) H1 Q E0;rw [List.append_nil];exact ⟨π,α1,h1,ds,Q',R1,q1,l1.trans hn,f1,fun d h' α' H' v a b c d'=>k d h' α' H' v a (e1.trans b) c d'⟩
end
def k8(n:Nat)(b:DS):DSp:=fun ds h Q=>b { nx:=fun _ h'=>Q .non h',rt:=Q } (ds.map some ++ List.replicate (n - ds.length) none) h
theorem T3{K:KP}{α:List Addr}{H:Hp}{ds:List D}{vs:List V}{N:List Str}(r:RelDs K α H ds vs):RelS K α H (ds.map some ++ List.replicate (N.length - ds.length) none) (L2.start N vs):=by
 refine ⟨by unfold L2.start;simp [r.length],fun i d e=>?_⟩
 by_cases hi:i < ds.length
 ·rw [List.getElem?_append_left (by simpa using hi),List.getElem?_map] at e
  cases q:ds[i]? with
  |none=>rw [q] at e;cases e
  |some z =>
   rw [q] at e;cases e;obtain ⟨u,h1,h2⟩:=r.get q;refine ⟨u,?_,h2⟩;unfold L2.start;rw [List.getElem?_append_left (by rw [List.length_map,<- r.length];exact hi),List.getElem?_map,h1];rfl
 ·rw [List.getElem?_append_right (by simpa using hi),List.getElem?_replicate] at e
  split at e <;> cases e
section
variable {P:Program} {w:World} {K:PySem.W.Frag} {mg:Str->Option Value} {base:Heap}
theorem z8{x qual:Str}{st:Stmt}{f:Addr}{fd:FuncData}{N ps:List Str}{k:Nat}{b:DS}{g:DSp}(F:Fun K x qual st f fd)(S:j6 N ps (d9 st))
  (hb:∀ (cdv:Value) (A:Around) (outer:List Env) (s:Shared) (H:Hp) (E:XK),Room k (A.deeper (PyProof.Rows.envOfC qual (d9 st) s.heap.objs.size f cdv))->SSs (Z2 CX0 P w K mg base N qual (d9 st) f cdv A outer s H E).nox (A5 st) b)
  (hg:∀ ds h Q,g ds h Q->k8 N.length b ds h Q):u7 P w K mg base CX0 (k + 1) f fd ps (spD K ps.length g):=by
 refine F.ok S (fun vs H Q E h=>?_) fun cdv A outer s H vs Q E hr h=>?_
 ·obtain ⟨π,α,h,ds,Q',R,r,l,_⟩:=h;rw [<- r.length,l]
 ·obtain ⟨π,α,h,ds,Q',R,r,l,q,kk⟩:=h;refine ⟨_,hb cdv A outer s H E hr,π,α,_,h,{ nx:=fun _ h'=>Q' .non h',rt:=Q' },R,T3 r,hg ds h Q' q,⟨fun _ h' α' H' σ' a b c _=>kk .non h' α' H' .non a b c .non,fun d h' α' H' v a b c d'=>kk d h' α' H' v a b c d',fun _ _ _ _ _ a _ _ _=>a.elim,fun _ _ _ _ _ a _ _ _=>a.elim,fun _ _ _ _ _ _ _ a _ _ _=>a.elim⟩⟩
end
end DL
namespace DL
open PySem PySem.Spec L2
def lsP(h:Hh):D->Option (List D)
 |.lst xs=>some xs
 |.ref i=>match h[i]? with | some (.lst xs)=>some xs | _=>none
 |_=>none
theorem a3K{K:KP}{α:List Addr}{H:Hp}{h:Hh}(R:HRel K α H h){d:D}{v:V}{xs:List D}(r:RelD K α H d v)(e:lsP h d=some xs):∃ p us,v = .ref p/\H p=some (.lst us)/\RelDs K α H xs us:=by
 cases r with
 |lst t r=>cases e;exact ⟨_,_,rfl,t.2.2,r⟩
 |@ref i a hp =>
  have e:(match h[i]? with | some (.lst xs)=>some xs | _=>none)=some xs:=e
  cases q:h[i]? with
  |none=>rw [q] at e;cases e
  |some o =>
   rw [q] at e
   cases o with
   |lst ys =>
    cases e;obtain ⟨p,us,e1,e2,e3⟩:=R.lst q;rw [hp] at e1;cases e1;exact ⟨_,us,rfl,e2,e3⟩
   |_=>cases e
 |_=>cases e
def u0:P2:=fun x y h Q=>match lsP h x,lsP h y with
 |some xs,some ys=>xs.length + ys.length <= 16777216/\Q (.lst (xs ++ ys)) h
 |_,_=>b6O x y h Q
section
variable {X:Cx}
theorem m7:OpR X (binaryOp .Add) (r2 X.K u0):=OpR.imp (op_cat.or b3G) fun x y H Q zz0=>by
 obtain ⟨π,α,h,d,e,Q',R,r1,r2,f,k⟩:=zz0;unfold u0 at f
 cases w:lsP h d with
 |none=>rw [w] at f;exact .inr ⟨π,α,h,d,e,Q',R,r1,r2,f,k⟩
 |some xs =>
  cases w':lsP h e with
  |none=>rw [w,w'] at f;exact .inr ⟨π,α,h,d,e,Q',R,r1,r2,f,k⟩
  |some ys =>
   rw [w,w'] at f;obtain ⟨p,us,rfl,b,c⟩:=a3K R r1 w;obtain ⟨p',us',rfl,b',c'⟩:=a3K R r2 w';refine .inl ⟨p,p',us,us',rfl,rfl,b,b',by rw [<- c.length,<- c'.length,sizeLine_eq];exact f.1,fun l hl=>?_⟩;have e2:Ext α H α (upd H l (.lst (us ++ us'))):=Ext.new hl;exact k _ h α _ _ f.2 e2 (R.new hl) (.lst ⟨R.out hl,R.outP hl,m8⟩ ((c.append c').mono e2))
def c0V(fa fb:DE):DN:=fun δ h Q=>fa δ h fun x h1=>fb δ h1 fun y h2=>match lsP h2 x,lsP h2 y with
 |some xs,some ys=>xs.length + ys.length <= 16777216/\Q (xs ++ ys) h2
 |_,_=>False
def c0d(fa fb:DE):DN:=fun δ h Q=>fa δ h fun x h1=>fb δ h1 fun y h2=>match lsP h2 x,y with
 |some xs,.int n=>(-(2 ^ 63) <= n/\n < 2 ^ 63/\xs.length * n.toNat <= 16777216)/\Q (List.replicate n.toNat xs).flatten h2
 |_,_=>False
theorem b1L:OpR X (binaryOp .Mult) (rI IntMulOk fun i j=>.int (i * j)):=opI fun _ _ _ _ _ _ _ hc q=>PyProof.Rows.mul_int q hc
def K6:P2:=pI IntMulOk fun i j=>i * j
theorem z6:OpR X (binaryOp .Mult) (r2 X.K K6):=a0N b1L
def c0Z:P2:=fun x y h Q=>match x,y with
 |.int i,.int j=>IntMulOk i j/\Q (.int (i * j)) h
 |.tup xs,.int n=>(xs ≠ []/\xs.length <= 10/\1 <= n/\n < 100)/\Q (.tup (List.replicate n.toNat xs).flatten) h
 |x,.int n=>(match lsP h x with | some xs=>(-(2 ^ 63) <= n/\n < 2 ^ 63/\xs.length * n.toNat <= 16777216)/\Q (.lst (List.replicate n.toNat xs).flatten) h | none=>False)
 |_,_=>False
def dSl(fe:DE)(fl fh:DO):DE:=fun δ h Q=>fe δ h fun d h1=>fl δ h1 fun l h2=>fh δ h2 fun u h3=>match d with
 |.tup xs=>Q (.tup (U3 xs l u)) h3
 |d=>match w6 h3 d with | some xs=>Q (.lst (U3 xs l u)) h3 | none=>False
theorem a4q{e:Expr}{fe:DE}{lo hi:Option Expr}{fl fh:DO}{pos p2:Pos}(he:SE X e fe)(hl:SO X lo fl)(hu:SO X hi fh):SE X (.Subscript e (.Slice lo hi none p2) pos) (dSl fe fl fh):=PE.imp (a8G (sl_tupD.or b1E) he hl hu) fun σ H Q zz0=>by
 obtain ⟨π,α,δ,h,Q',R,S,f,k⟩:=zz0;refine ⟨π,α,δ,h,_,R,S,f,fun d h1 α1 H1 v1 f1 e1 R1 q1=>?_⟩;refine ⟨π,α1,δ,h1,_,R1,S.mono e1,f1,fun l h2 α2 H2 f2 e2 R2=>?_⟩;refine ⟨π,α2,δ,h2,_,R2,S.mono (e1.trans e2),f2,fun u h3 α3 H3 f3 e3 R3=>?_⟩;have q3:=(q1.mono e2).mono e3
 split at f3
 ·cases q3 with
  |@tup a us ds t r =>
   refine .inl ⟨a,us,rfl,t.sq,fun z=>?_,fun p hp=>?_⟩
   ·have c:=a1L r l u;rw [z] at c;exact k _ h3 α3 H3 _ f3 (e1.trans (e2.trans e3)) R3 (.tup t c)
   ·have e4:Ext α3 H3 α3 (upd H3 p (.tup (V8 us l u))):=Ext.new hp;exact k _ h3 α3 _ _ f3 (e1.trans (e2.trans (e3.trans e4))) (R3.new hp) (.tup ⟨R3.out hp,R3.outP hp,m8⟩ ((a1L r l u).mono e4))
 ·split at f3
  ·rename_i xs w;obtain ⟨p,us,rfl,b,c⟩:=Z8 R3 q3 w;refine .inr ⟨p,us,rfl,b,fun l' hl=>?_⟩;have e4:Ext α3 H3 α3 (upd H3 l' (.lst (V8 us l u))):=Ext.new hl;exact k _ h3 α3 _ _ f3 (e1.trans (e2.trans (e3.trans e4))) (R3.new hl) (.lst ⟨R3.out hl,R3.outP hl,m8⟩ ((a1L c l u).mono e4))
  ·exact f3.elim
def N6(fo:DE)(fs:DA):DE:=fun δ h Q=>fo δ h fun d h1=>match d with
 |.ref i=>(match h1[i]? with
  |some (.lst _)=>fs δ h1 fun ds h2=>(match ds,h2[i]? with
   |[v],some (.lst ys)=>(match lsP h2 v with | some zs=>ys.length + zs.length <= 16777216/\Q .non (h2.set i (.lst (ys ++ zs))) | none=>False)
   |_,_=>False)
  |_=>False)
 |_=>False
theorem J6{o e:Expr}{fo:DE}{fs:DA}{n:Nat}{apos cpos:Pos}(ho:SE X o fo)(ha:SA X [e] n fs)(hbase:attributeBase o "extend" X.env (eval o X.env)=eval o X.env:=by rfl)
  (hfew:((backTo cpos (starEach [e] X.env)).all (fun x=>!x.1) && (backToKw cpos (keywordEach [] X.env)).all (fun x=>x.1.isSome)
   && decide ([e].length + ([]:List Keyword).length + (if ([]:List Keyword).isEmpty then 0 else 1) < 30))=true:=by rfl)
  (hline:(apos.endLine == cpos.line)=true:=by rfl) (hs:starEach [e] X.env=(false,eval e X.env) :: starEach [] X.env:=by rfl) (hplain:(backTo cpos (starEach [] X.env)).any (·.1)=false:=by rfl) :
  SE X (.Call (.Attribute o "extend" apos) [e] [] cpos) (N6 fo fs) :=
 PE.imp (b3l PySem.F.plainAttrs_list PySem.F.slot_list_extend PySem.F.type_list_extend a5l ho ha hbase hfew hline hs hplain) fun σ H Q zz0=>by
  obtain ⟨π,α,δ,h,Q',R,S,f,k⟩:=zz0;refine ⟨π,α,δ,h,_,R,S,f,fun d h1 α1 H1 v1 f1 e1 R1 q1=>?_⟩
  cases q1 with
  |@ref i a hp =>
   dsimp only at f1
   cases w:h1[i]? with
   |none=>rw [w] at f1;exact f1.elim
   |some ob =>
    rw [w] at f1
    cases ob with
    |lst xs =>
     obtain ⟨us,e2,e3⟩:=a3q R1 hp w;refine ⟨.inl ⟨rfl,us,SqL.of e2⟩,π,α1,δ,h1,_,R1,S.mono e1,f1,fun ds h2 α2 H2 vs f2 e2 R2 q2 l2=>?_⟩
     split at f2
     ·rename_i v ys w2;obtain ⟨u,rfl,q9⟩:=q2.inv1
      split at f2
      ·rename_i zs w3;have hp2:=e2.get hp;obtain ⟨us2,g2,g3⟩:=a3q R2 hp2 w2;obtain ⟨b,us3,rfl,g4,g5⟩:=a3K R2 q9 w3;have e4:Ext α2 H2 α2 (upd H2 a (.lst (us2 ++ us3))):=Ext.write (List.mem_of_getElem? hp2);exact ⟨a,b,us2,us3,rfl,rfl,g2,g4,by rw [<- g3.length,<- g5.length,sizeLine_eq];exact f2.1,k _ _ α2 _ _ f2.2 (e1.trans (e2.trans e4)) (R2.write hp2 (.lst m8 ((g3.append g5).mono e4))) .non⟩
      ·exact f2.elim
     ·exact f2.elim
    |_=>exact f1.elim
  |_=>exact f1.elim
def O9(h:Hh):D->Option String
 |.non=>some "NoneType"
 |.bl _=>some "bool"
 |.int _=>some "int"
 |.str _=>some "str"
 |.tup _=>some "tuple"
 |.lst _=>some "list"
 |.ref i=>match h[i]? with | some (.lst _)=>some "list" | some (.dT none _)=>some "dict" | some (.dK _)=>some "dict" | _=>none
 |_=>none
def n9(t T:String):Bool:=t == T || (t == "bool" && T == "int")
theorem b4y{K:PySem.W.Frag}{t T:String}(ht:t ∈ ["NoneType","bool","int","str","tuple","list","dict"])(hT:T ∈ ["bool","int","str","tuple","list","dict"]):PySem.W.kitOne K (.type t) (.type T)=some (n9 t T):=by
 simp only [List.mem_cons,List.not_mem_nil,or_false] at ht hT
 rcases ht with rfl | rfl | rfl | rfl | rfl | rfl | rfl <;> rcases hT with rfl | rfl | rfl | rfl | rfl | rfl <;> rfl
def G3(T:String)(fa:DE):DE:=fun δ h Q=>fa δ h fun d h1=>match O9 h1 d with | some t=>Q (.bl (n9 t T)) h1 | none=>False
theorem b2u{h:Hh}{d:D}{t:String}(e:O9 h d=some t):t ∈ ["NoneType","bool","int","str","tuple","list","dict"]:=by
 unfold O9 at e
 split at e
 all_goals first | (cases e;done) | (cases e;decide) | skip
 split at e
 all_goals first | (cases e;done) | (cases e;decide)
theorem a1N{T:String}:CallR X (.builtin "isinstance") (fun xs H Q=>∃ x t b,xs=[x,.ty T]/\(V5 X.K H x t\/(t = .type "tuple"/\∃ a us,x = .ref a/\SqT X.K H a us))/\PySem.W.kitOne X.K t (.type T)=some b/\Q (.bl b) H):=by
 intro pins s σ H xs us Q I r h;obtain ⟨x,t,b,rfl,ty,e,q⟩:=h;obtain ⟨u,w',rfl,ru,rw'⟩:=a2s r
 cases rw'
 rcases ty with ty | ⟨rfl,a,us,rfl,hq⟩
 ·exact a5X I ru ty e fun tk=>⟨.bl b,H,I.tok _,rfl,q⟩
 ·cases ru;obtain ⟨its,rv,⟨o,h1,h2,_⟩,_⟩:=I.tuple hq;exact PySem.W.kia_one PySem.W.kitx_tuple I.kIn ⟨o,h1,h2⟩ e (fun z=>nomatch z) fun tk=>⟨.bl b,H,I.tok _,rfl,q⟩
theorem b0p{K:PySem.W.Frag}{π α:List Addr}{H:Hp}{h:Hh}{d:D}{v:V}{t:String}(R:HRel ⟨K,π⟩ α H h)(r:RelD ⟨K,π⟩ α H d v)(e:O9 h d=some t):V5 K H v (.type t)\/(Value.type t = .type "tuple"/\∃ a us,v = .ref a/\SqT K H a us):=by
 cases r with
 |non=>cases e;exact .inl .non
 |bl b=>cases e;exact .inl (.bl b)
 |int i=>cases e;exact .inl (.int i)
 |str x=>cases e;exact .inl (.str x)
 |tup t r=>cases e;exact .inr ⟨rfl,_,_,rfl,t.sq⟩
 |lst t r=>cases e;exact .inl (.lst t.2.2)
 |scr t r=>cases e
 |exc _ _ _=>cases e
 |@ref i a hp =>
  have e:(match h[i]? with | some (.lst _)=>some "list" | some (.dT none _)=>some "dict" | some (.dK _)=>some "dict" | _=>none)=some t:=e
  cases q:h[i]? with
  |none=>rw [q] at e;cases e
  |some o =>
   rw [q] at e
   cases o with
   |lst ys =>
    cases e;obtain ⟨us,e2,e3⟩:=a3q R hp q;exact .inl (.lst e2)
   |dT z ys =>
    cases z with
    |none =>
     cases e;obtain ⟨p,us,e1,e2,e3⟩:=R.dT q;rw [hp] at e1;cases e1;exact .inl (.dT e2)
    |some o=>cases e
   |dK ys =>
    cases e;obtain ⟨p,us,e1,e2,e3⟩:=R.dK q;rw [hp] at e1;cases e1;exact .inl (.dK e2)
   |ins C fs=>cases e
theorem G0{T:String}{a:Expr}{fa:DE}{x:Str}{p p2 pos:Pos}(hT:T ∈ ["bool","int","str","tuple","list","dict"])(hg:Gl X "isinstance")(hm:X.mg "isinstance" = none)(ha:SE X a fa)(ht:PE X (.Name x p2) (tC (.ty T)))
  (he:starEach [a,.Name x p2] X.env=(false,eval a X.env) :: starEach [.Name x p2] X.env:=by rfl) (he2:starEach [.Name x p2] X.env=(false,eval (.Name x p2) X.env) :: starEach [] X.env:=by rfl) (hpl:(backTo pos (starEach [.Name x p2] X.env)).any (·.1)=false:=by rfl) :
  SE X (.Call (.Name "isinstance" p) [a,.Name x p2] [] pos) (G3 T fa):=PE.imp (V2 a1N hg hm PyProof.Rows.boot_isinstance (A4 ha (A4 ht N7 he2) he) (by decide) (by decide) he hpl) fun σ H Q ⟨π,α,δ,h,Q',R,S,f,k⟩=>by
 refine ⟨π,α,δ,h,_,R,S,f,fun d h1 α1 H1 v1 f1 e1 R1 q1=>?_⟩
 split at f1
 ·rename_i t w;exact ⟨v1,.type t,_,rfl,b0p R1 q1 w,b4y (b2u w) hT,k _ h1 α1 H1 _ f1 e1 R1 (.bl _)⟩
 ·exact f1.elim
def a0O:D->Bool
 |.non=>true
 |.bl _=>true
 |.int _=>true
 |.str _=>true
 |_=>false
def eqF:D->D->Bool
 |.non,.non=>true
 |.bl a,.bl b=>a == b
 |.bl a,.int b=>(if a then 1 else 0) == b
 |.int a,.bl b=>a == (if b then 1 else 0)
 |.int a,.int b=>a == b
 |.str a,.str b=>a == b
 |_,_=>false
def inF(x:D)(xs:List D):Bool:=xs.any fun y=>eqF y x
theorem a2o{K:KP}{α:List Addr}{H:Hp}{d:D}{v:V}(r:RelD K α H d v):R0 v=a0O d:=by cases r <;> rfl
theorem a1a{K:KP}{α:List Addr}{H:Hp}:∀ {ds:List D} {vs:List V},RelDs K α H ds vs->vs.all R0=ds.all a0O
 |_,_,.nil=>rfl
 |_,_,.cons r t=>by rw [List.all_cons,List.all_cons,a2o r,a1a t]
theorem b1j{K:KP}{α:List Addr}{H:Hp}{d e:D}{v u:V}(r:RelD K α H d v)(s:RelD K α H e u):eqV v u=eqF d e:=by
 cases r <;> cases s <;> rfl
theorem a4s{K:KP}{α:List Addr}{H:Hp}{d:D}{v:V}(r:RelD K α H d v):∀ {ds:List D} {vs:List V},RelDs K α H ds vs->inV v vs=inF d ds
 |_,_,.nil=>rfl
 |_,_,.cons s t=>by
  have:=a4s r t
  unfold inV inF at this ⊢;rw [List.any_cons,List.any_cons,this,b1j s r]
def pIn(neg:Bool):P2:=fun x y h Q=>match K7 h y with
 |some xs=>(a0O x && xs.all a0O)=true/\Q (.bl (if neg then !inF x xs else inF x xs)) h
 |none=>False
theorem b2E{neg:Bool}{x y:V}{H:Hp}{Q:VK}(g:r2 X.K (pIn neg) x y H Q):rIn X.K neg x y H Q:=by
 obtain ⟨π,α,h,d,e,Q',R,r1,r2,f,k⟩:=g;unfold pIn at f
 split at f
 ·rename_i xs w;obtain ⟨p,us,rfl,b,c⟩:=a0e R r2 w;obtain ⟨f1,f2⟩:=f;rw [Bool.and_eq_true] at f1;refine ⟨p,us,rfl,b,by rw [a2o r1];exact f1.1,by rw [a1a c];exact f1.2,k _ h α H _ f2 (Ext.refl ..) R ?_⟩;rw [a4s r1 c];exact .bl _
 ·exact f.elim
theorem a2w:OpR X (compareOp .In) (r2 X.K (pIn false)):=OpR.imp a5I fun _ _ _ _ g=>b2E g
theorem a2h:OpR X (compareOp .NotIn) (r2 X.K (pIn true)):=OpR.imp a1O fun _ _ _ _ g=>b2E g
end
end DL
namespace DL
open PySem PySem.Spec L2
section
variable {X:Cx}
def a3y:List D->Option (List Int)
 |[]=>some []
 |.int i :: r=>(a3y r).map (i :: ·)
 |_ :: _=>none
def pLt:P2:=fun x y h Q=>match x,y with
 |.int i,.int j=>Q (.bl (decide (i < j))) h
 |.tup a,.tup b=>(match a3y a,a3y b with | some ns,some ms=>Q (.bl (HT.lexLt ns ms)) h | _,_=>False)
 |.str a,.str b=>Q (.bl (decide (a.cps.toList < b.cps.toList))) h
 |_,_=>False
def a5P:D->Option Key
 |.int i=>some (.inl i)
 |.str x=>some (.inr x)
 |_=>none
def lkG(kvs:List (Key×Int))(k:Key):Option Int:=(kvs.find? fun kv=>decide (kv.1=k)).map (·.2)
def b6Z(kvs:List (Key×Int))(fi:DE):DE:=fun δ h Q=>fi δ h fun d h1=>match (a5P d).bind fun k=>lkG kvs k with | some v=>Q (.int v) h1 | none=>False
theorem b0C{K:KP}{α:List Addr}{H:Hp}{d:D}{v:V}{k:Key}(r:RelD K α H d v)(e:a5P d=some k):v=kV k:=by
 cases r <;> cases e <;> rfl
theorem a3c(kvs:List (Key×Int))(k:Key):a0B (kvs.map fun p=>(p.1,V.int p.2)) k=(lkG kvs k).map V.int:=by
 unfold a0B lkG;rw [List.find?_map];rw [Option.map_map,Option.map_map];rfl
theorem b1J{x:Str}{kvs:List (Key×Int)}{i:Expr}{fi:DE}{p pos:Pos}(hg:Gl X x)(hk:∃ a,X.mg x=some (.ref a)/\a4L X.prog X.w X.K a (kvs.map fun p=>(p.1,V.int p.2)))(hi:SE X i fi)(hs:b5E i:=by exact fun _ _=>rfl)(hd:(x == ("__debug__":Str))=false:=by decide) :
  SE X (.Subscript (.Name x p) i pos) (b6Z kvs fi):=let ⟨_,hm,hk⟩:=hk;PE.imp (b2m hg hm hk hi hs hd) fun σ H Q ⟨π,α,δ,h,Q',R,S,f,k⟩=>by
 refine ⟨π,α,δ,h,_,R,S,f,fun d h1 α1 H1 v1 f1 e1 R1 q1=>?_⟩
 cases w:a5P d with
 |none=>rw [w] at f1;exact f1.elim
 |some kk =>
  rw [w] at f1;have f1:(match lkG kvs kk with | some v=>Q' (.int v) h1 | none=>False):=f1
  cases w2:lkG kvs kk with
  |none=>rw [w2] at f1;exact f1.elim
  |some v =>
   rw [w2] at f1;exact ⟨kk,.int v,b0C q1 w,by rw [a3c,w2];rfl,k _ h1 α1 H1 _ f1 e1 R1 (.int _)⟩
def b8U(f:DA):DI:=fun δ h Q=>f δ h fun ds h1=>match ds with | [d]=>(match d with | .tup _=>False | d=>match H9 h1 d with | some S=>Q ⟨M5 1 S.items,S.w⟩ h1 | none=>False) | _=>False
end
end DL
namespace Att
open PySem PySem.W PySem.Calls PyProof.Rows
theorem X3:∀ (ns:List Int) (x:Int),x ∈ ns->Builtin.Int.intBits x <= WData.weightAll (ns.map WData.int)
 |n :: r,x,h=>by
  rw [List.map_cons];show _ <= WData.weight (.int n) + 1 + WData.weightAll (r.map WData.int)
  rcases List.mem_cons.mp h with rfl | h
  ·have e:WData.weight (.int x)=Builtin.Int.intBits x:=rfl;rw [e];omega
  ·have:=X3 r x h
   omega
theorem a5y{ns:List Int}(h:WData.layableAll [WData.list (ns.map WData.int)]=true):∀ x ∈ ns,Builtin.Int.intBits x <= 1048576:=fun x hx=>by
 have h:(WData.layable (.list (ns.map WData.int)) && true)=true:=h;rw [Bool.and_true] at h;unfold WData.layable at h;rw [Bool.and_eq_true] at h;have h2:WData.weight (.list (ns.map WData.int)) <= 2 ^ 20:=of_decide_eq_true h.2;exact Nat.le_trans (X3 ns x hx) h2
theorem attach_call2{l:OpenLaw}{n:Nat}{q:Program}{loose:List Str}{XP:(Str->Option Value)->Heap->Prop}{YP:World->Heap->Prop}{d:DefRec}
  (hn:l.most=some n) (hdf:d.params.defaults=[])
  (call:∀ (w:World) (s₀ s₁:Shared) (mg mb:Str->Option Value) (fa:Addr) (o:Obj) (pm cd doc:Value) (a:Addr) (vs:List Value) (ns:List Int),
   Ground q loose [] XP w s₀ mg mb s₁.heap->YP w s₁.heap ->
   s₁.heap.get? fa=some o->o.data = .func (docDef d.name d.params d.body d.scope pm cd doc)->s₁.heap.CodeRec cd d.name->mg d.name=some (.ref fa) ->
   s₁.heap.get? a=some { cls:=.type "list",data:=.seq vs.toArray }->IntsAre vs ns->ns.length <= n->(∀ x ∈ ns,Builtin.Int.intBits x <= 1048576)->s₁.gens = #[] ->
   codeAny (model l.prog w) callerA (.call (.ref fa) ⟨[.ref a],[]⟩) (fun r s'=>r = .ok (.ret (.bool true))/\OldK s₁.heap s'.heap/\s'.os=s₁.os/\AllBare s'.gens) s₁) :
  WalkO q loose XP YP l.row.toRowW d [] (fun f vs=>PySem.call f vs):=by
 intro w s₀ s₁ mg mb G Y fa o pm cd doc dV kV ho hd hcd hD hmg hg args vals as hpre hlay hrd hwl hlo
 obtain rfl:dV = .none:=Dflts.none hD hdf
 obtain rfl:kV = .none:=Dflts.noKw hD
 obtain ⟨a,vs,ns,rfl,rfl,hobj,hints,hlen⟩:=a5V hn hpre hwl;refine enter_call (codeAny_mono (call w s₀ s₁ mg mb fa o pm cd doc a vs ns G Y ho (fd_plain hd) hcd hmg hobj hints hlen (a5y hlay) hg) fun r s' hq=>?_);obtain ⟨rfl,h2,h3,h4⟩:=hq;exact ⟨.inl ⟨.bool true,.bool true,[],rfl,fun _=>rfl,.bool true,a5i l _,fun _=>⟨List.Pairwise.nil,fun _ hm=>(nomatch hm)⟩⟩,h2,h3,h4⟩
end Att
namespace DL
open PySem PySem.Spec L2 PySem.W PyProof.Rows
theorem walkD{l:OpenLaw}{n k:Nat}{q:Program}{loose:List Str}{XP:(Str->Option Value)->Heap->Prop}{YP:World->Heap->Prop}{d:DefRec}{K:Params->PySem.W.Frag}{S:DSp}{x:Str}
  (hn:l.most=some n) (hn2:n <= sizeLine) (hdf:d.params.defaults=[]) (hr:Room k callerA)
  (hY:∀ (w:World) (h:Heap),YP w h->(K w.params).In h)
  (F:∀ (w:World) (mg:Str->Option Value) (fa:Addr) (h:Heap),(K w.params).In h->h.Ns mainGlobals mg->mg d.name=some (.ref fa) ->
   ∃ fd:FuncData,(∀ (s:Shared) (u:Value),BindsTo s fd ⟨[u],[]⟩ [(x,u)]) /\
    ∀ base:Heap,(K w.params).In base->base.Ns mainGlobals mg->u7 l.prog w (K w.params) mg base CX0 k fa fd [x] (spD (K w.params) 1 S))
  (hS:∀ ns:List Int,ns.length <= n->(∀ x ∈ ns,Builtin.Int.intBits x <= 1048576)->S [.scr (ns.map D.int)] [] (fun v _=>v = .bl true)) :
  WalkO q loose XP YP l.row.toRowW d [] (fun f vs=>PySem.call f vs):=by
 refine Att.attach_call2 hn hdf fun w s₀ s₁ mg mb fa o pm cd doc a vs ns G Y ho hd hcd hmg hobj hints hlen hbits hg=>?_;have KX:=hY w _ Y;obtain ⟨fd,hb,hF⟩:=F w mg fa _ KX G.T.g hmg;refine L2.law_call KX G.T.g G.T.b G.T.builtins G.T.nolimit hg hobj hints (Nat.le_trans hlen hn2) hr hF hb (fun H hO hS'=>?_) fun H e s' z=>z;refine ⟨[],[],[],[.scr (ns.map D.int)],_,⟨rfl,List.nodup_nil,fun p hp=>(nomatch hp),fun i o e=>?_⟩,.cons (.scr (a:=a) (us:=ns.map V.int) ?_ (RelDs.ints ns)) .nil,rfl,hS ns hlen hbits,fun d h' α' H' v a b c r=>?_⟩
 ·simp at e
 ·rcases hS' with h | h
  ·exact .inl ⟨fun z=>(nomatch z),fun z=>(nomatch z),h⟩
  ·exact .inr h
 ·have a:d = .bl true:=a;subst a
  cases r;rfl
end DL
namespace DL
open PySem PySem.Spec L2
mutual
def nrD:D->Bool
 |.tup xs=>L6 xs
 |.lst xs=>L6 xs
 |.scr xs=>L6 xs
 |.ref _=>false
 |_=>true
def L6:List D->Bool
 |[]=>true
 |d :: ds=>nrD d && L6 ds
end
def nrO:O->Bool
 |.lst xs=>L6 xs
 |.dT _ kvs=>L6 (kvs.map (·.2))
 |.dK kvs=>L6 (kvs.map (·.2))
 |.ins _ fs=>L6 (fs.map (·.2))
mutual
inductive Vw(n:Nat)(h:Hh):D->D->Prop
 |nr {d:D}:nrD d=true->Vw n h d d
 |old {i:Nat}:i < n->Vw n h (.ref i) (.ref i)
 |opn {i:Nat} {xs ys:List D}:n <= i->h[i]?=some (.lst xs)->Vws n h xs ys->Vw n h (.ref i) (.lst ys)
 |tup {xs ys:List D}:Vws n h xs ys->Vw n h (.tup xs) (.tup ys)
 |lst {xs ys:List D}:Vws n h xs ys->Vw n h (.lst xs) (.lst ys)
inductive Vws(n:Nat)(h:Hh):List D->List D->Prop
 |nil:Vws n h [] []
 |cons {d e:D} {ds es:List D}:Vw n h d e->Vws n h ds es->Vws n h (d :: ds) (e :: es)
end
section
variable {K:PySem.W.Frag} {π α β:List Addr} {H H':Hp} {h:Hh}
theorem VT.less{a:Addr}{us:List V}(t:VT ⟨K,π⟩ (α ++ β) H a us):VT ⟨K,π⟩ α H a us:=⟨fun z=>t.1 (List.mem_append_left _ z),t.2⟩
theorem VS.less{a:Addr}{us:List V}(t:VS ⟨K,π⟩ (α ++ β) H a us):VS ⟨K,π⟩ α H a us:=by
 rcases t with ⟨n,m,t⟩ | t
 ·exact .inl ⟨fun z=>n (List.mem_append_left _ z),m,t⟩
 ·exact .inr t
theorem VL.less{a:Addr}{us:List V}(t:VL ⟨K,π⟩ (α ++ β) H a us):VL ⟨K,π⟩ α H a us:=⟨fun z=>t.1 (List.mem_append_left _ z),t.2⟩
theorem VE.less{a:Addr}{u:HO}(t:VE ⟨K,π⟩ (α ++ β) H a u):VE ⟨K,π⟩ α H a u:=⟨fun z=>t.1 (List.mem_append_left _ z),t.2⟩
theorem U2{x:D}{r:List D}(e:L6 (x :: r)=true):nrD x=true/\L6 r=true:=by
 have e:(nrD _ && L6 _)=true:=e;rw [Bool.and_eq_true] at e;exact e
theorem RelD.nr{d:D}{v:V}(e:nrD d=true)(r:RelD ⟨K,π⟩ (α ++ β) H d v):RelD ⟨K,π⟩ α H d v :=
 RelD.rec (motive_1:=fun d v _=>nrD d=true->RelD ⟨K,π⟩ α H d v) (motive_2:=fun ds us _=>L6 ds=true->RelDs ⟨K,π⟩ α H ds us) (fun _=>.non) (fun b _=>.bl b) (fun i _=>.int i) (fun x _=>.str x) (fun t _ h e=>.tup t.less (h e)) (fun t _ h e=>.lst t.less (h e)) (fun t _ h e=>.scr t.less (h e)) (fun _ e=>nomatch e) (fun n t r _=>.exc n t.less (r.map fun _ _ z=>z.less)) (fun _=>.nil) (fun _ _ h t e=>.cons (h (U2 e).1) (t (U2 e).2)) r e
theorem RelDs.nr{ds:List D}{vs:List V}(e:L6 ds=true)(r:RelDs ⟨K,π⟩ (α ++ β) H ds vs):RelDs ⟨K,π⟩ α H ds vs:=by
 induction ds generalizing vs with
 |nil=>cases r;exact .nil
 |cons d ds ih=>cases r with | cons h t=>exact .cons (h.nr (U2 e).1) (ih (U2 e).2 t)
mutual
def rfD(n:Nat):D->Bool
 |.tup xs=>a2k n xs
 |.lst xs=>a2k n xs
 |.scr xs=>a2k n xs
 |.ref i=>decide (i < n)
 |_=>true
def a2k(n:Nat):List D->Bool
 |[]=>true
 |x :: r=>rfD n x && a2k n r
end
theorem RelD.rf{d:D}{v:V}(r:RelD ⟨K,π⟩ α H d v):rfD α.length d=true :=
 RelD.rec (motive_1:=fun d _ _=>rfD α.length d=true) (motive_2:=fun ds _ _=>a2k α.length ds=true) rfl (fun _=>rfl) (fun _=>rfl) (fun _=>rfl) (fun _ _ h=>h) (fun _ _ h=>h) (fun _ _ h=>h) (fun h=>decide_eq_true (List.getElem?_eq_some_iff.mp h).1) (fun _ _ _=>rfl) rfl (fun _ _ h t=>Bool.and_eq_true_iff.mpr ⟨h,t⟩) r
theorem RelDs.rf{ds:List D}{vs:List V}(r:RelDs ⟨K,π⟩ α H ds vs):a2k α.length ds=true:=by
 induction ds generalizing vs with
 |nil=>rfl
 |cons d ds ih=>cases r with | cons h t=>exact Bool.and_eq_true_iff.mpr ⟨h.rf,ih t⟩
theorem RelD.old2{d:D}{v:V}(e:rfD α.length d=true)(r:RelD ⟨K,π⟩ (α ++ β) H d v):RelD ⟨K,π⟩ α H d v :=
 RelD.rec (motive_1:=fun d v _=>rfD α.length d=true->RelD ⟨K,π⟩ α H d v) (motive_2:=fun ds us _=>a2k α.length ds=true->RelDs ⟨K,π⟩ α H ds us) (fun _=>.non) (fun b _=>.bl b) (fun i _=>.int i) (fun x _=>.str x) (fun t _ h e=>.tup t.less (h e)) (fun t _ h e=>.lst t.less (h e)) (fun t _ h e=>.scr t.less (h e)) (fun h1 e=>.ref (by rw [List.getElem?_append_left (of_decide_eq_true e)] at h1;exact h1)) (fun n t r _=>.exc n t.less (r.map fun _ _ z=>z.less)) (fun _=>.nil) (fun _ _ h t e=>.cons (h (Bool.and_eq_true_iff.mp e).1) (t (Bool.and_eq_true_iff.mp e).2)) r e
theorem RelDs.old2{ds:List D}{vs:List V}(e:a2k α.length ds=true)(r:RelDs ⟨K,π⟩ (α ++ β) H ds vs):RelDs ⟨K,π⟩ α H ds vs:=by
 induction ds generalizing vs with
 |nil=>cases r;exact .nil
 |cons d ds ih=>cases r with | cons h t=>exact .cons (h.old2 (Bool.and_eq_true_iff.mp e).1) (ih (Bool.and_eq_true_iff.mp e).2 t)
theorem RelD.old{d:D}{v v0:V}(r0:RelD ⟨K,π⟩ α H d v0)(r:RelD ⟨K,π⟩ (α ++ β) H' d v):RelD ⟨K,π⟩ α H' d v:=r.old2 r0.rf
theorem RelDs.old{ds:List D}{vs vs0:List V}(r0:RelDs ⟨K,π⟩ α H ds vs0)(r:RelDs ⟨K,π⟩ (α ++ β) H' ds vs):RelDs ⟨K,π⟩ α H' ds vs:=r.old2 r0.rf
theorem RelKV.old{κ:Type}{ds:List (κ×D)}{vs vs0:List (κ×V)}(r0:RelKV ⟨K,π⟩ α H ds vs0)(r:RelKV ⟨K,π⟩ (α ++ β) H' ds vs):RelKV ⟨K,π⟩ α H' ds vs:=by
 induction r0 generalizing vs with
 |nil=>cases r;exact .nil
 |cons r0 _ ih=>cases r with | cons r t=>exact .cons (RelD.old r0 r) (ih t)
theorem RelKV.nr{κ:Type}{ds:List (κ×D)}{vs:List (κ×V)}(e:L6 (ds.map (·.2))=true)(r:RelKV ⟨K,π⟩ (α ++ β) H ds vs):RelKV ⟨K,π⟩ α H ds vs:=by
 induction r with
 |nil=>exact .nil
 |cons r _ ih =>
  have e:(nrD _ && L6 _)=true:=e;rw [Bool.and_eq_true] at e;exact .cons (RelD.nr e.1 r) (ih e.2)
theorem RelO'.nr{p:Addr}{o:O}(e:nrO o=true)(r:RelO' ⟨K,π⟩ (α ++ β) H p o):RelO' ⟨K,π⟩ α H p o:=by
 cases r with
 |lst h t=>exact .lst h (t.nr e)
 |dT h t=>exact .dT h (t.nr e)
 |dK h t=>exact .dK h (t.nr e)
 |ins n h t=>exact .ins n h (t.nr e)
theorem RelO'.old{p p0:Addr}{o:O}(r0:RelO' ⟨K,π⟩ α H p0 o)(r:RelO' ⟨K,π⟩ (α ++ β) H' p o):RelO' ⟨K,π⟩ α H' p o:=by
 cases r0 with
 |lst h0 t0=>cases r with | lst h t=>exact .lst h (t0.old t)
 |dT h0 t0=>cases r with | dT h t=>exact .dT h (t0.old t)
 |dK h0 t0=>cases r with | dK h t=>exact .dK h (t0.old t)
 |ins n0 h0 t0=>cases r with | ins n h t=>exact .ins n h (t0.old t)
theorem Vw.rel(R:HRel ⟨K,π⟩ (α ++ β) H h){n:Nat}(hn:α.length=n){d e:D}{v:V}(w:Vw n h d e)(r:RelD ⟨K,π⟩ (α ++ β) H d v):RelD ⟨K,π⟩ α H e v:=by
 refine Vw.rec (motive_1:=fun d e _=>∀ v,RelD ⟨K,π⟩ (α ++ β) H d v->RelD ⟨K,π⟩ α H e v) (motive_2:=fun ds es _=>∀ vs,RelDs ⟨K,π⟩ (α ++ β) H ds vs->RelDs ⟨K,π⟩ α H es vs) (fun e v r=>r.nr e) ?_ ?_ ?_ ?_ ?_ ?_ w v r
 ·intro i hi v r
  cases r with
  |ref hp=>exact .ref (by rw [List.getElem?_append_left (by omega)] at hp;exact hp)
 ·intro i xs ys hi e _ ih v r
  cases r with
  |ref hp =>
  obtain ⟨us,e2,e3⟩:=a3q R hp e;have hm:=List.mem_of_getElem? hp;refine .lst ⟨fun z=>?_,fun z=>(R.dis _ z).1 hm,e2⟩ (ih _ e3);obtain ⟨j,hj,ej⟩:=List.getElem_of_mem z;subst ej;have q:(α ++ β)[j]?=some α[j]:=by rw [List.getElem?_append_left hj,List.getElem?_eq_getElem hj]
  have:=(List.getElem?_inj (List.getElem?_eq_some_iff.mp hp).1 R.nd).mp (hp.trans q.symm)
  omega
 ·intro xs ys _ ih v r
  cases r with
  |tup q r=>exact .tup q.less (ih _ r)
 ·intro xs ys _ ih v r
  cases r with
  |lst q r=>exact .lst q.less (ih _ r)
 ·intro vs r
  cases r;exact .nil
 ·intro d e ds es _ _ h1 h2 vs r
  cases r with
  |cons r s=>exact .cons (h1 _ r) (h2 _ s)
end
def Dr(h:Hh)(Q:DK):DK:=fun d h'=>∃ h2 g d',h'=h2 ++ g/\h2.length=h.length/\(∀ (i:Nat) (o:O),h2[i]?=some o->h[i]?=some o\/nrO o=true)/\Vw h.length h' d d'/\Q d' h2
theorem Dr.rel{K:PySem.W.Frag}{π α α':List Addr}{H H':Hp}{h h':Hh}{Q:DK}{d:D}{v:V}(R:HRel ⟨K,π⟩ α H h)(e:Ext α H α' H')(R':HRel ⟨K,π⟩ α' H' h')(r:RelD ⟨K,π⟩ α' H' d v)(q:Dr h Q d h') :
  ∃ d' h2,Q d' h2/\Ext α H α H'/\HRel ⟨K,π⟩ α H' h2/\RelD ⟨K,π⟩ α H' d' v:=by
 obtain ⟨h2,g,d',rfl,hl,ho,vw,q⟩:=q;obtain ⟨⟨β,rfl,hb⟩,ek,ed⟩:=e;have hn:=R.len;refine ⟨d',h2,q,⟨⟨[],by simp,fun p hp=>nomatch hp⟩,ek,ed⟩,⟨by omega,?_,fun p hp=>?_,fun i o eo=>?_⟩,vw.rel R' hn r⟩
 ·exact R.nd
 ·exact ⟨fun z=>(R'.dis p hp).1 (List.mem_append_left _ z),(R'.dis p hp).2⟩
 ·have hi:i < h2.length:=(List.getElem?_eq_some_iff.mp eo).1;obtain ⟨p,ep,ro⟩:=R'.obj i o (by rw [List.getElem?_append_left hi];exact eo);refine ⟨p,by rw [List.getElem?_append_left (by omega)] at ep;exact ep,?_⟩
  rcases ho i o eo with z | z
  ·obtain ⟨p0,_,r0⟩:=R.obj i o z;exact r0.old ro
  ·exact ro.nr z
theorem L7{P:Program}{w:World}{K:PySem.W.Frag}{mg:Str->Option Value}{base:Heap}{x qual:Str}{st:Stmt}{f:Addr}{fd:FuncData}{N ps:List Str}{k:Nat}{b:DS}{g:DSp}(F:Fun K x qual st f fd)(S:j6 N ps (d9 st))
  (hb:∀ (cdv:Value) (A:Around) (outer:List Env) (s:Shared) (H:Hp) (E:XK),Room k (A.deeper (PyProof.Rows.envOfC qual (d9 st) s.heap.objs.size f cdv))->SSs (Z2 CX0 P w K mg base N qual (d9 st) f cdv A outer s H E).nox (A5 st) b)
  (hg:∀ ds h Q,g ds h Q->k8 N.length b ds h (Dr h Q)):u7 P w K mg base CX0 (k + 1) f fd ps (spD K ps.length g):=by
 refine F.ok S (fun vs H Q E h=>?_) fun cdv A outer s H vs Q E hr h=>?_
 ·obtain ⟨π,α,h,ds,Q',R,r,l,_⟩:=h;rw [<- r.length,l]
 ·obtain ⟨π,α,h,ds,Q',R,r,l,q,kk⟩:=h;refine ⟨_,hb cdv A outer s H E hr,π,α,_,h,{ nx:=fun _ h'=>Dr h Q' .non h',rt:=Dr h Q' },R,T3 r,hg ds h Q' q,⟨fun _ h' α' H' σ' a b c _=>?_,fun d h' α' H' v a b c d'=>?_,fun _ _ _ _ _ a _ _ _=>a.elim,fun _ _ _ _ _ a _ _ _=>a.elim,fun _ _ _ _ _ _ _ a _ _ _=>a.elim⟩⟩
  ·obtain ⟨d',h2,q,e,R2,r2⟩:=a.rel R b c .non;exact kk d' h2 α H' .non q e R2 r2
  ·obtain ⟨d',h2,q,e,R2,r2⟩:=a.rel R b c d';exact kk d' h2 α H' v q e R2 r2
theorem E6{τ:Type}{g:τ->D}(hg:∀ x,nrD (g x)=true):∀ xs:List τ,L6 (xs.map g)=true
 |[]=>rfl
 |x :: r=>by
  show (nrD (g x) && L6 (r.map g))=true;rw [hg x,E6 hg r];rfl
theorem Vws.of{n:Nat}{h:Hh}:∀ {xs:List D},L6 xs=true->Vws n h xs xs
 |[],_=>.nil
 |x :: r,e=>by
  have e:(nrD x && L6 r)=true:=e;rw [Bool.and_eq_true] at e;exact .cons (.nr e.1) (Vws.of e.2)
theorem Vws.of_get{n:Nat}{h:Hh}:∀ {xs ys:List D},xs.length=ys.length->(∀ (i:Nat) (x y:D),xs[i]?=some x->ys[i]?=some y->Vw n h x y)->Vws n h xs ys
 |[],[],_,_=>.nil
 |x :: xs,y :: ys,e,k=>.cons (k 0 x y rfl rfl) (Vws.of_get (by simpa using e) fun i a b h1 h2=>k (i + 1) a b (by simpa using h1) (by simpa using h2))
theorem Dr.same{h:Hh}{Q:DK}{d:D}(e:nrD d=true)(q:Q d h):Dr h Q d h:=⟨h,[],d,by simp,rfl,fun _ _ e=>.inl e,.nr e,q⟩
theorem Dr.drop{h g:Hh}{Q:DK}{d:D}(e:nrD d=true)(q:Q d h):Dr h Q d (h ++ g):=⟨h,g,d,rfl,rfl,fun _ _ e=>.inl e,.nr e,q⟩
theorem Dr.dropL{h:Hh}{Q:DK}{xs:List D}{g1 g2:Hh}{k:Nat}(e:L6 xs=true)(hk:k=h.length + g1.length)(q:Q (.lst xs) h):Dr h Q (.ref k) (h ++ (g1 ++ .lst xs :: g2)):=by
 refine ⟨h,g1 ++ .lst xs :: g2,.lst xs,rfl,rfl,fun _ _ e=>.inl e,.opn (by omega) ?_ (.of e),q⟩;subst hk;rw [List.getElem?_append_right (by omega),show h.length + g1.length - h.length=g1.length by omega,List.getElem?_append_right (Nat.le_refl _)]
 simp
end DL
namespace DL
open PySem L2
theorem atN{α:Type}(xs:List α)(i:Nat):atI xs (i:Int)=xs[i]?:=by
 unfold atI ixN
 by_cases h:i < xs.length
 ·rw [if_pos (by omega),if_pos (by omega)];simp
 ·rw [if_pos (by omega),if_neg (by omega)]
  simp;omega
theorem T6{α:Type}{xs:List α}{i:Int}(h0:0 <= i):atI xs i=xs[i.toNat]?:=by
 have:=atN xs i.toNat
 rwa [Int.toNat_of_nonneg h0] at this
theorem b6Y{α:Type}(a:α)(l:List α):atI (a :: l) 0=some a:=atN _ 0
theorem b8t{α:Type}(a b:α)(l:List α):atI (a :: b :: l) 1=some b:=atN _ 1
theorem b7b{α:Type}(a b c:α)(l:List α):atI (a :: b :: c :: l) 2=some c:=atN _ 2
theorem b7P{α:Type}(a b c d:α)(l:List α):atI (a :: b :: c :: d :: l) 3=some d:=atN _ 3
theorem c0c{α:Type}(a:α):atI [a] 0=some a:=rfl
theorem c0j{α:Type}(a b:α):atI [a,b] 0=some a:=rfl
theorem c0C{α:Type}(a b:α):atI [a,b] 1=some b:=rfl
theorem c0k{α:Type}(a b c:α):atI [a,b,c] 0=some a:=rfl
theorem c0N{α:Type}(a b c:α):atI [a,b,c] 1=some b:=rfl
theorem c0U{α:Type}(a b c:α):atI [a,b,c] 2=some c:=rfl
theorem c0z{α:Type}(a b c d:α):atI [a,b,c,d] 0=some a:=rfl
theorem c0p{α:Type}(a b c d:α):atI [a,b,c,d] 1=some b:=rfl
theorem c0n{α:Type}(a b c d:α):atI [a,b,c,d] 2=some c:=rfl
theorem c0M{α:Type}(a b c d:α):atI [a,b,c,d] 3=some d:=rfl
theorem c0O{α:Type}(a b c d e:α):atI [a,b,c,d,e] 0=some a:=rfl
theorem c0I{α:Type}(a b c d e:α):atI [a,b,c,d,e] 1=some b:=rfl
theorem c0s{α:Type}(a b c d e:α):atI [a,b,c,d,e] 2=some c:=rfl
theorem c0R{α:Type}(a b c d e:α):atI [a,b,c,d,e] 3=some d:=rfl
theorem c0x{α:Type}(a b c d e:α):atI [a,b,c,d,e] 4=some e:=rfl
theorem c0u{α:Type}(a b c d e f:α):atI [a,b,c,d,e,f] 0=some a:=rfl
theorem c0Q{α:Type}(a b c d e f:α):atI [a,b,c,d,e,f] 1=some b:=rfl
theorem c0A{α:Type}(a b c d e f:α):atI [a,b,c,d,e,f] 2=some c:=rfl
theorem c0i{α:Type}(a b c d e f:α):atI [a,b,c,d,e,f] 3=some d:=rfl
theorem c0t{α:Type}(a b c d e f:α):atI [a,b,c,d,e,f] 4=some e:=rfl
theorem c0P{α:Type}(a b c d e f:α):atI [a,b,c,d,e,f] 5=some f:=rfl
theorem c0g{α:Type}(a b c d e f g:α):atI [a,b,c,d,e,f,g] 0=some a:=rfl
theorem c0h{α:Type}(a b c d e f g:α):atI [a,b,c,d,e,f,g] 1=some b:=rfl
theorem c0f{α:Type}(a b c d e f g:α):atI [a,b,c,d,e,f,g] 2=some c:=rfl
theorem c0E{α:Type}(a b c d e f g:α):atI [a,b,c,d,e,f,g] 3=some d:=rfl
theorem c0o{α:Type}(a b c d e f g:α):atI [a,b,c,d,e,f,g] 4=some e:=rfl
theorem c0K{α:Type}(a b c d e f g:α):atI [a,b,c,d,e,f,g] 5=some f:=rfl
theorem c0S{α:Type}(a b c d e f g:α):atI [a,b,c,d,e,f,g] 6=some g:=rfl
theorem c0q{α:Type}(a b c d e f g i:α):atI [a,b,c,d,e,f,g,i] 0=some a:=rfl
theorem c0H{α:Type}(a b c d e f g i:α):atI [a,b,c,d,e,f,g,i] 1=some b:=rfl
theorem c0B{α:Type}(a b c d e f g i:α):atI [a,b,c,d,e,f,g,i] 2=some c:=rfl
theorem c0w{α:Type}(a b c d e f g i:α):atI [a,b,c,d,e,f,g,i] 3=some d:=rfl
theorem c0b{α:Type}(a b c d e f g i:α):atI [a,b,c,d,e,f,g,i] 4=some e:=rfl
theorem c0F{α:Type}(a b c d e f g i:α):atI [a,b,c,d,e,f,g,i] 5=some f:=rfl
theorem c0D{α:Type}(a b c d e f g i:α):atI [a,b,c,d,e,f,g,i] 6=some g:=rfl
theorem c0e{α:Type}(a b c d e f g i:α):atI [a,b,c,d,e,f,g,i] 7=some i:=rfl
theorem R6(x a b:D):inF x [a,b]=(eqF a x || (eqF b x || false)):=rfl
theorem Q9(x a b c:D):inF x [a,b,c]=(eqF a x || (eqF b x || (eqF c x || false))):=rfl
theorem Q8(a b:Str):eqF (.str a) (.str b)=(a == b):=rfl
theorem a0z(b:Bool):(true || b)=true:=rfl
theorem a0G(b:Bool):(false || b)=b:=rfl
theorem r9{h:Hh}{d:D}{xs:List D}(e:w6 h d=some xs)(k:Int):ixD h d (.int k)=atI xs k:=by
 cases d with
 |lst ys=>cases e;rfl
 |scr ys=>cases e;rfl
 |ref i =>
  have e:(match h[i]? with | some (.lst xs)=>some xs | _=>none)=some xs:=e;show (match h[i]? with | some (.lst xs)=>atI xs k | _=>none)=atI xs k
  cases q:h[i]? with
  |none=>rw [q] at e;cases e
  |some o =>
   rw [q] at e
   cases o with
   |lst ys=>cases e;rfl
   |_=>cases e
 |_=>cases e
theorem a6B{h:Hh}{d:D}{xs:List D}(e:w6 h d=some xs):K7 h d=some xs:=by
 cases d with
 |lst ys=>exact e
 |scr ys=>exact e
 |ref i=>exact e
 |_=>cases e
theorem p6{h:Hh}{d:D}{xs:List D}(e:w6 h d=some xs):a2Z h d=some xs.length:=by
 have s:=a6B e
 cases d with
 |lst ys=>cases e;rfl
 |scr ys=>cases e;rfl
 |ref i=>show (K7 h (.ref i)).map List.length=_;rw [s];rfl
 |_=>cases e
theorem a3g{h:Hh}{d:D}{xs:List D}(e:w6 h d=some xs):∃ w,H9 h d=some ⟨xs,w⟩/\(Src.mk xs w).ok h/\∀ p ∈ w,∃ i,d = .ref i/\p=(i,.lst xs):=by
 cases d with
 |lst ys=>cases e;exact ⟨[],rfl,Src.ok_nil,fun p hp=>nomatch hp⟩
 |scr ys=>cases e;exact ⟨[],rfl,Src.ok_nil,fun p hp=>nomatch hp⟩
 |ref i =>
  have e:(match h[i]? with | some (.lst xs)=>some xs | _=>none)=some xs:=e
  cases q:h[i]? with
  |none=>rw [q] at e;cases e
  |some o =>
   rw [q] at e
   cases o with
   |lst ys =>
    cases e;refine ⟨[(i,.lst xs)],?_,fun p hp=>?_,fun p hp=>⟨i,rfl,List.mem_singleton.mp hp⟩⟩
    ·show (match h[i]? with | some (.lst xs)=>some (Src.mk xs [(i,.lst xs)]) | _=>none)=_;rw [q]
    ·rw [List.mem_singleton.mp hp];exact q
   |_=>cases e
 |_=>cases e
def Pre(h h':Hh):Prop:=∀ (i:Nat) (o:O),h[i]?=some o->h'[i]?=some o
theorem Pre.app(h g:Hh):Pre h (h ++ g):=fun i o e=>by
 rw [List.getElem?_append_left (List.getElem?_eq_some_iff.mp e).1];exact e
theorem Pre.ls{h h':Hh}(p:Pre h h'){d:D}{xs:List D}(e:w6 h d=some xs):w6 h' d=some xs:=by
 cases d with
 |ref i =>
  have e:(match h[i]? with | some (.lst xs)=>some xs | _=>none)=some xs:=e;show (match h'[i]? with | some (.lst xs)=>some xs | _=>none)=some xs
  cases q:h[i]? with
  |none=>rw [q] at e;cases e
  |some o=>rw [q] at e;rw [p i o q];exact e
 |_=>exact e
theorem T0(h:Hh)(xs:List D):w6 (h ++ [.lst xs]) (.ref h.length)=some xs:=by
 show (match (h ++ [O.lst xs])[h.length]? with | some (.lst xs)=>some xs | _=>none)=some xs;rw [List.getElem?_append_right (Nat.le_refl _)];simp
theorem t8(h:Hh)(o:O):(h ++ [o])[h.length]?=some o:=by
 rw [List.getElem?_append_right (Nat.le_refl _)];simp
theorem A2(h:Hh)(o u:O):(h ++ [o]).set h.length u=h ++ [u]:=by
 rw [List.set_append_right _ _ (Nat.le_refl _)];simp
theorem w5{τ:Type}{S:Src}{t:DG}{b:DS}{E:K4}(P:List τ->Sl->Hh->Prop){g:τ->D}{ys:List τ}{δ:Sl}{h:Hh}(h0:P [] δ h)(ok:∀ p δ h,P p δ h->S.ok h)
  (hs:∀ (p:List τ) (y:τ) (r:List τ) (δ:Sl) (h:Hh) (N:Sl->Hh->Prop),ys=p ++ y :: r->P p δ h->(∀ δ h,P (p ++ [y]) δ h->N δ h)->t (g y) δ h fun δ2 h2=>b { E with nx:=N,ct:=N,bk:=E.nx } δ2 h2)
  (hd:∀ δ h,P ys δ h->E.nx δ h):a1G S t b E (ys.map g) δ h:=by
 have go:∀ (r p:List τ) δ h,ys=p ++ r->P p δ h->a1G S t b E (r.map g) δ h:=by
  intro r
  induction r with
  |nil=>intro p δ h e q;rw [List.append_nil] at e;subst e;exact ⟨ok _ _ _ q,hd _ _ q⟩
  |cons y r ih =>
   intro p δ h e q;exact ⟨ok _ _ _ q,hs p y r δ h _ e q fun δ3 h3 p3=>ih (p ++ [y]) δ3 h3 (by rw [e];simp) p3⟩
 exact go ys [] δ h rfl h0
theorem W4{τ:Type}{S:Src}{t:DG}{tf:DT}{te:DE}(P:List τ->List D->Sl->Hh->Prop){g:τ->D}{ys:List τ}{δ:Sl}{h:Hh}{Q:List D->Hh->Prop}(h0:P [] [] δ h)(ok:∀ p a δ h,P p a δ h->S.ok h)
  (hs:∀ (p:List τ) (y:τ) (r:List τ) (acc:List D) (δ:Sl) (h:Hh) (N:List D->Sl->Hh->Prop),ys=p ++ y :: r->P p acc δ h->(∀ a δ h,P (p ++ [y]) a δ h->N a δ h) ->
   t (g y) δ h fun δ2 h2=>tf δ2 h2 fun b h3=>if b=true then te δ2 h3 fun z h4=>N (acc ++ [z]) δ2 h4 else N acc δ2 h3)
  (hd:∀ a δ h,P ys a δ h->Q a h):P7 S t tf te (ys.map g) [] δ h Q:=by
 have go:∀ (r p:List τ) a δ h,ys=p ++ r->P p a δ h->P7 S t tf te (r.map g) a δ h Q:=by
  intro r
  induction r with
  |nil=>intro p a δ h e q;rw [List.append_nil] at e;subst e;exact ⟨ok _ _ _ _ q,hd _ _ _ q⟩
  |cons y r ih =>
   intro p a δ h e q;exact ⟨ok _ _ _ _ q,hs p y r a δ h (fun a δ h=>P7 S t tf te (r.map g) a δ h Q) e q fun a3 δ3 h3 p3=>ih (p ++ [y]) a3 δ3 h3 (by rw [e];simp) p3⟩
 exact go ys [] [] δ h rfl h0
theorem a0U{τ:Type}{S:Src}{tf:DT}{te:DE}{g:τ->D}{ys:List τ}{h:Hh}{fr:Sl}{Q:List D->Hh->Prop}(c:τ->Bool)(v:τ->D)(ok:S.ok h)(o:Option D)
  (htf:∀ y ∈ ys,∀ K:Bool->Hh->Prop,K (c y) h->tf (some (g y) :: fr) h K) (hte:∀ y ∈ ys,c y=true->∀ K:DK,K (v y) h->te (some (g y) :: fr) h K)
  (hd:Q ((ys.filter c).map v) h):P7 S (d7 0) tf te (ys.map g) [] (o :: fr) h Q:=by
 refine W4 (fun p a δ h'=>h'=h/\(∃ o,δ=o :: fr)/\a=(p.filter c).map v) ⟨rfl,⟨o,rfl⟩,rfl⟩ (fun p a δ h' q=>by rw [q.1];exact ok) ?_ ?_
 ·rintro p y r acc δ h' N e ⟨rfl,⟨o,rfl⟩,rfl⟩ hN
  have hy:y ∈ ys:=by rw [e];simp
  refine htf y hy _ ?_
  cases hc:c y with
  |true =>
   refine Y9 (hte y hy hc _ (hN _ _ _ ⟨rfl,⟨_,rfl⟩,?_⟩))
   simp [List.filter_append,hc]
  |false =>
   refine T7 (hN _ _ _ ⟨rfl,⟨_,rfl⟩,?_⟩)
   simp [List.filter_append,hc]
 ·rintro a δ h' ⟨rfl,_,rfl⟩
  exact hd
theorem N0{τ:Type}{S:Src}{te:DE}{g:τ->D}{ys:List τ}{h:Hh}{fr:Sl}{Q:List D->Hh->Prop}(v:τ->D)(ok:S.ok h)(o:Option D)
  (hte:∀ y ∈ ys,∀ K:DK,K (v y) h->te (some (g y) :: fr) h K) (hd:Q (ys.map v) h):P7 S (d7 0) M7 te (ys.map g) [] (o :: fr) h Q :=
 a0U (fun _=>true) v ok o (fun _ _ K k=>k) (fun y hy _=>hte y hy) ((show ys.filter (fun _=>true)=ys by simp).symm ▸ hd)
theorem v9(lo:Int):∀ n:Nat,E4 lo n=(List.range n).map fun i=>D.int (lo + (i:Nat)):=by
 intro n
 apply List.ext_getElem?
 intro i;rw [T5]
 by_cases h:i < n <;> simp [h]
theorem a0Z{τ:Type}(lo:Int)(g:τ->D)(ys:List τ):M5 lo (ys.map g)=ys.zipIdx.map fun p=>.tup [.int (lo + (p.2:Nat)),g p.1]:=by
 apply List.ext_getElem?
 intro i;rw [W3]
 simp [List.getElem?_zipIdx]
 cases ys[i]? <;> simp
theorem b8W:O0 .non=true:=rfl
theorem b9J(b:Bool):O0 (.bl b)=false:=rfl
theorem b8P(b:Int):O0 (.int b)=false:=rfl
theorem b8Z(b:Str):O0 (.str b)=false:=rfl
theorem b8N(b:List D):O0 (.tup b)=false:=rfl
theorem b9c(b:List D):O0 (.lst b)=false:=rfl
theorem b9a(b:Nat):O0 (.ref b)=false:=rfl
theorem b7Z(h:Hh)(xs:List D):w6 h (.lst xs)=some xs:=rfl
theorem b6C(h:Hh)(xs:List D):K7 h (.lst xs)=some xs:=rfl
theorem b5T(h:Hh)(xs:List D):H9 h (.lst xs)=some ⟨xs,[]⟩:=rfl
theorem b7n(h:Hh)(xs:List D):a2Z h (.lst xs)=some xs.length:=rfl
theorem b8Q(h:Hh)(xs:List D)(i:Int):ixD h (.lst xs) (.int i)=atI xs i:=rfl
theorem b8O(h:Hh)(xs:List D):trD h (.lst xs)=some (!xs.isEmpty):=rfl
theorem b8J(h:Hh)(xs:List D):w6 h (.scr xs)=some xs:=rfl
theorem b6G(h:Hh)(xs:List D):K7 h (.scr xs)=some xs:=rfl
theorem b6h(h:Hh)(xs:List D):H9 h (.scr xs)=some ⟨xs,[]⟩:=rfl
theorem b6W(h:Hh)(xs:List D):a2Z h (.scr xs)=some xs.length:=rfl
theorem b9b(h:Hh)(xs:List D)(i:Int):ixD h (.scr xs) (.int i)=atI xs i:=rfl
theorem b8X(h:Hh)(xs:List D):trD h (.scr xs)=some (!xs.isEmpty):=rfl
theorem b8V(h:Hh)(xs:List D):lsP h (.lst xs)=some xs:=rfl
theorem b8S(h:Hh)(xs:List D):lsP h (.tup xs)=none:=rfl
theorem b8Y(h:Hh)(x:Int):lsP h (.int x)=none:=rfl
theorem b8R(h:Hh)(x:Str):lsP h (.str x)=none:=rfl
theorem b6M(h:Hh)(xs:List D):K7 h (.tup xs)=some xs:=rfl
theorem b5D(h:Hh)(xs:List D):H9 h (.tup xs)=some ⟨xs,[]⟩:=rfl
theorem b7B(h:Hh)(xs:List D):a2Z h (.tup xs)=some xs.length:=rfl
theorem b9d(h:Hh)(xs:List D)(i:Int):ixD h (.tup xs) (.int i)=atI xs i:=rfl
theorem b8M(h:Hh)(xs:List D):trD h (.tup xs)=some (!xs.isEmpty):=rfl
theorem b8T(h:Hh):trD h .non=some false:=rfl
theorem b9h(h:Hh)(b:Bool):trD h (.bl b)=some b:=rfl
theorem b9e(h:Hh)(i:Int):trD h (.int i)=some (i != 0):=rfl
theorem b6F(h:Hh) :O9 h (.non)=some "NoneType":=rfl
theorem b7m(h:Hh)(x:Bool):O9 h (.bl x)=some "bool":=rfl
theorem b6K(h:Hh)(x:Int):O9 h (.int x)=some "int":=rfl
theorem b6E(h:Hh)(x:Str):O9 h (.str x)=some "str":=rfl
theorem b6H(h:Hh)(x:List D):O9 h (.tup x)=some "tuple":=rfl
theorem b6L(h:Hh)(x:List D):O9 h (.lst x)=some "list":=rfl
theorem a5c:n9 "NoneType" "bool" = false:=rfl
theorem a5R:n9 "NoneType" "int" = false:=rfl
theorem a5D:n9 "NoneType" "str" = false:=rfl
theorem a3N:n9 "NoneType" "tuple" = false:=rfl
theorem a4i:n9 "NoneType" "list" = false:=rfl
theorem a4b:n9 "NoneType" "dict" = false:=rfl
theorem a9P:n9 "bool" "bool" = true:=rfl
theorem b0n:n9 "bool" "int" = true:=rfl
theorem b1l:n9 "bool" "str" = false:=rfl
theorem a8n:n9 "bool" "tuple" = false:=rfl
theorem a9o:n9 "bool" "list" = false:=rfl
theorem a9y:n9 "bool" "dict" = false:=rfl
theorem b2p:n9 "int" "bool" = false:=rfl
theorem b2Q:n9 "int" "int" = true:=rfl
theorem b2O:n9 "int" "str" = false:=rfl
theorem a9z:n9 "int" "tuple" = false:=rfl
theorem b1D:n9 "int" "list" = false:=rfl
theorem b1X:n9 "int" "dict" = false:=rfl
theorem b1r:n9 "str" "bool" = false:=rfl
theorem b3q:n9 "str" "int" = false:=rfl
theorem b2I:n9 "str" "str" = true:=rfl
theorem a9E:n9 "str" "tuple" = false:=rfl
theorem b0G:n9 "str" "list" = false:=rfl
theorem b0k:n9 "str" "dict" = false:=rfl
theorem a6x:n9 "tuple" "bool" = false:=rfl
theorem a9u:n9 "tuple" "int" = false:=rfl
theorem a9A:n9 "tuple" "str" = false:=rfl
theorem a6b:n9 "tuple" "tuple" = true:=rfl
theorem a8p:n9 "tuple" "list" = false:=rfl
theorem a6D:n9 "tuple" "dict" = false:=rfl
theorem a9R:n9 "list" "bool" = false:=rfl
theorem b2n:n9 "list" "int" = false:=rfl
theorem b1B:n9 "list" "str" = false:=rfl
theorem a7M:n9 "list" "tuple" = false:=rfl
theorem a9Q:n9 "list" "list" = true:=rfl
theorem a9J:n9 "list" "dict" = false:=rfl
theorem a9M:n9 "dict" "bool" = false:=rfl
theorem b0b:n9 "dict" "int" = false:=rfl
theorem b0i:n9 "dict" "str" = false:=rfl
theorem a7W:n9 "dict" "tuple" = false:=rfl
theorem a9L:n9 "dict" "list" = false:=rfl
theorem a9U:n9 "dict" "dict" = true:=rfl
theorem v8{h:Hh}{i:Nat}{xs:List D}(e:h[i]?=some (.lst xs)):w6 h (.ref i)=some xs:=by show (match h[i]? with | some (.lst xs)=>some xs | _=>none)=_;rw [e]
theorem S5{h:Hh}{i:Nat}{xs:List D}(e:h[i]?=some (.lst xs)):H9 h (.ref i)=some ⟨xs,[(i,.lst xs)]⟩:=by show (match h[i]? with | some (.lst xs)=>some (Src.mk xs [(i,.lst xs)]) | _=>none)=_;rw [e]
theorem c0m(n:Nat):ixN (n + 1) 0=some 0:=by unfold ixN;rw [if_pos (by decide),if_pos (by omega)];rfl
theorem b9D:ixN 1 0=some 0:=rfl
theorem set_set{h:Hh}{i:Nat}{o u:O}:(h.set i o).set i u=h.set i u:=List.set_set ..
theorem a1o{h g:Hh}{k:Nat}{o x:O}(e:h[k]?=some x):((h.set k o) ++ g)[k]?=some o:=by
 have hk:=(List.getElem?_eq_some_iff.mp e).1;rw [List.getElem?_append_left (by rw [List.length_set];exact hk)];exact List.getElem?_set_self hk
theorem a1U{h g:Hh}{k:Nat}{o u x:O}(e:h[k]?=some x):((h.set k o) ++ g).set k u=(h.set k u) ++ g:=by
 have hk:=(List.getElem?_eq_some_iff.mp e).1;rw [List.set_append_left _ _ (by rw [List.length_set];exact hk),List.set_set]
theorem T4{h:Hh}{k:Nat}{o m:O}:((h.set k o) ++ [m])[h.length]?=some m:=by
 rw [List.getElem?_append_right (by rw [List.length_set];exact Nat.le_refl _)];simp
theorem a1w{h:Hh}{k:Nat}{o m u:O}:((h.set k o) ++ [m]).set h.length u=(h.set k o) ++ [u]:=by
 rw [List.set_append_right _ _ (by rw [List.length_set];exact Nat.le_refl _)];simp
theorem a3Z{h:Hh}{i:Nat}{o:O}(e:h[i]?=some o):h.set i o=h:=by
 apply List.ext_getElem?
 intro j
 by_cases z:i=j
 ·subst z;rw [List.getElem?_set_self (List.getElem?_eq_some_iff.mp e).1,e]
 ·rw [List.getElem?_set_ne z]
theorem G1{n d:Nat}{p r:List Nat}(e:List.range n=p ++ d :: r):d=p.length/\d < n:=by
 have h9:p.length < n:=by
  have:p.length < (List.range n).length:=by rw [e];simp
  simpa using this
 have h8:(List.range n)[p.length]?=some d:=by rw [e];simp
 rw [List.getElem?_range h9] at h8
 cases h8;exact ⟨rfl,h9⟩
theorem Dr.state{h g:Hh}{Q:DK}{d:D}{k:Nat}{o x:O}(e:h[k]?=some x)(ho:nrO o=true)(hd:nrD d=true)(q:Q d (h.set k o)):Dr h Q d ((h.set k o) ++ g):=by
 refine ⟨h.set k o,g,d,rfl,by rw [List.length_set],fun i u hu=>?_,.nr hd,q⟩
 by_cases z:k=i
 ·subst z;rw [List.getElem?_set_self (List.getElem?_eq_some_iff.mp e).1] at hu
  cases hu;exact .inr ho
 ·rw [List.getElem?_set_ne z] at hu;exact .inl hu
theorem D9{f g:DS}{E:K4}{δ:Sl}{h:Hh}(k:∀ N:Sl->Hh->Prop,N=g E->f { E with nx:=N } δ h):d8 f g E δ h:=k _ rfl
theorem Q3(a b:Nat):((a:Int) == (b:Int))=decide (a=b):=by rw [Bool.eq_iff_iff];simp;omega
theorem O3(a b:Nat):((a:Int) == (b:Int) - 1)=decide (a + 1=b):=by rw [Bool.eq_iff_iff];simp;omega
theorem Q7(a b:Nat):((a:Int) == (b:Int))=decide (b=a):=by rw [Bool.eq_iff_iff];simp;omega
theorem M4{t:DT}{a b:DS}{E:K4}{δ:Sl}{h:Hh}(k:∀ A B:Sl->Hh->Prop,A=a E->B=b E->t δ h fun c h1=>if c=true then A δ h1 else B δ h1):o9 t a b E δ h:=k _ _ rfl rfl
theorem b0H{c:Bool}{A B:Prop}(h1:c=true->A)(h2:c=false->B):if c=true then A else B:=by
 cases c with
 |true=>exact Y9 (h1 rfl)
 |false=>exact T7 (h2 rfl)
theorem a2l{i j:Int}(h:-(2 ^ 64) < i/\i < 2 ^ 64):IntMulOk i j:=.of_left (intBits_le_64 h.1 h.2)
theorem a0L{i j:Int}(h:-(2 ^ 64) < j/\j < 2 ^ 64):IntMulOk i j:=.of_right (intBits_le_64 h.1 h.2)
end DL
namespace CM
open PySem L2 DL
theorem Z3:PyData.strOk (Str.ofString "step")=true:=by decide +kernel
theorem a1q:((Str.ofString "step") == (Str.ofString "step"))=true:=by decide +kernel
theorem a1K:((Str.ofString "step") == (Str.ofString "call"))=false:=by decide +kernel
theorem a3r:((Str.ofString "step") == (Str.ofString "in"))=false:=by decide +kernel
theorem b0O:((Str.ofString "step") == (Str.ofString "over"))=false:=by decide +kernel
theorem a0J:((Str.ofString "step") == (Str.ofString "begin"))=false:=by decide +kernel
theorem a0C:((Str.ofString "step") == (Str.ofString "start"))=false:=by decide +kernel
theorem a9H:((Str.ofString "step") == (Str.ofString "short"))=false:=by decide +kernel
theorem a9W:((Str.ofString "step") == (Str.ofString "along"))=false:=by decide +kernel
theorem a9d:((Str.ofString "step") == (Str.ofString "within"))=false:=by decide +kernel
theorem b4C:((Str.ofString "step") == (Str.ofString "at"))=false:=by decide +kernel
theorem b3r:((Str.ofString "step") == (Str.ofString "out"))=false:=by decide +kernel
theorem a4y:PyData.strOk (Str.ofString "call")=true:=by decide +kernel
theorem a1x:((Str.ofString "call") == (Str.ofString "step"))=false:=by decide +kernel
theorem a1s:((Str.ofString "call") == (Str.ofString "call"))=true:=by decide +kernel
theorem b4M:((Str.ofString "call") == (Str.ofString "in"))=false:=by decide +kernel
theorem b0S:((Str.ofString "call") == (Str.ofString "over"))=false:=by decide +kernel
theorem a9p:((Str.ofString "call") == (Str.ofString "begin"))=false:=by decide +kernel
theorem a9V:((Str.ofString "call") == (Str.ofString "start"))=false:=by decide +kernel
theorem a9T:((Str.ofString "call") == (Str.ofString "short"))=false:=by decide +kernel
theorem a9B:((Str.ofString "call") == (Str.ofString "along"))=false:=by decide +kernel
theorem a9j:((Str.ofString "call") == (Str.ofString "within"))=false:=by decide +kernel
theorem b5Z:((Str.ofString "call") == (Str.ofString "at"))=false:=by decide +kernel
theorem b2T:((Str.ofString "call") == (Str.ofString "out"))=false:=by decide +kernel
theorem b3n:PyData.strOk (Str.ofString "in")=true:=by decide +kernel
theorem b3Q:((Str.ofString "in") == (Str.ofString "step"))=false:=by decide +kernel
theorem b4b:((Str.ofString "in") == (Str.ofString "call"))=false:=by decide +kernel
theorem b7z:((Str.ofString "in") == (Str.ofString "in"))=true:=by decide +kernel
theorem b4o:((Str.ofString "in") == (Str.ofString "over"))=false:=by decide +kernel
theorem a2R:((Str.ofString "in") == (Str.ofString "begin"))=false:=by decide +kernel
theorem a2H:((Str.ofString "in") == (Str.ofString "start"))=false:=by decide +kernel
theorem b2N:((Str.ofString "in") == (Str.ofString "short"))=false:=by decide +kernel
theorem b3a:((Str.ofString "in") == (Str.ofString "along"))=false:=by decide +kernel
theorem b0a:((Str.ofString "in") == (Str.ofString "within"))=false:=by decide +kernel
theorem b7s:((Str.ofString "in") == (Str.ofString "at"))=false:=by decide +kernel
theorem b6B:((Str.ofString "in") == (Str.ofString "out"))=false:=by decide +kernel
theorem a4u:PyData.strOk (Str.ofString "over")=true:=by decide +kernel
theorem b0Y:((Str.ofString "over") == (Str.ofString "step"))=false:=by decide +kernel
theorem b1Q:((Str.ofString "over") == (Str.ofString "call"))=false:=by decide +kernel
theorem a3Q:((Str.ofString "over") == (Str.ofString "in"))=false:=by decide +kernel
theorem b1O:((Str.ofString "over") == (Str.ofString "over"))=true:=by decide +kernel
theorem a0A:((Str.ofString "over") == (Str.ofString "begin"))=false:=by decide +kernel
theorem a0H:((Str.ofString "over") == (Str.ofString "start"))=false:=by decide +kernel
theorem a9C:((Str.ofString "over") == (Str.ofString "short"))=false:=by decide +kernel
theorem a9O:((Str.ofString "over") == (Str.ofString "along"))=false:=by decide +kernel
theorem a6C:((Str.ofString "over") == (Str.ofString "within"))=false:=by decide +kernel
theorem b4g:((Str.ofString "over") == (Str.ofString "at"))=false:=by decide +kernel
theorem b3u:((Str.ofString "over") == (Str.ofString "out"))=false:=by decide +kernel
theorem a9g:PyData.strOk (Str.ofString "begin")=true:=by decide +kernel
theorem a9r:((Str.ofString "begin") == (Str.ofString "step"))=false:=by decide +kernel
theorem a9w:((Str.ofString "begin") == (Str.ofString "call"))=false:=by decide +kernel
theorem b2J:((Str.ofString "begin") == (Str.ofString "in"))=false:=by decide +kernel
theorem a9t:((Str.ofString "begin") == (Str.ofString "over"))=false:=by decide +kernel
theorem a7E:((Str.ofString "begin") == (Str.ofString "begin"))=true:=by decide +kernel
theorem a8o:((Str.ofString "begin") == (Str.ofString "start"))=false:=by decide +kernel
theorem a8j:((Str.ofString "begin") == (Str.ofString "short"))=false:=by decide +kernel
theorem a6X:((Str.ofString "begin") == (Str.ofString "along"))=false:=by decide +kernel
theorem a6c:((Str.ofString "begin") == (Str.ofString "within"))=false:=by decide +kernel
theorem b2M:((Str.ofString "begin") == (Str.ofString "at"))=false:=by decide +kernel
theorem b1P:((Str.ofString "begin") == (Str.ofString "out"))=false:=by decide +kernel
theorem a8f:PyData.strOk (Str.ofString "start")=true:=by decide +kernel
theorem a9D:((Str.ofString "start") == (Str.ofString "step"))=false:=by decide +kernel
theorem a9I:((Str.ofString "start") == (Str.ofString "call"))=false:=by decide +kernel
theorem b3i:((Str.ofString "start") == (Str.ofString "in"))=false:=by decide +kernel
theorem a9N:((Str.ofString "start") == (Str.ofString "over"))=false:=by decide +kernel
theorem a8X:((Str.ofString "start") == (Str.ofString "begin"))=false:=by decide +kernel
theorem a7u:((Str.ofString "start") == (Str.ofString "start"))=true:=by decide +kernel
theorem a8R:((Str.ofString "start") == (Str.ofString "short"))=false:=by decide +kernel
theorem a8a:((Str.ofString "start") == (Str.ofString "along"))=false:=by decide +kernel
theorem a6d:((Str.ofString "start") == (Str.ofString "within"))=false:=by decide +kernel
theorem b2S:((Str.ofString "start") == (Str.ofString "at"))=false:=by decide +kernel
theorem b0t:((Str.ofString "start") == (Str.ofString "out"))=false:=by decide +kernel
theorem a7d:PyData.strOk (Str.ofString "short")=true:=by decide +kernel
theorem a9S:((Str.ofString "short") == (Str.ofString "step"))=false:=by decide +kernel
theorem a9F:((Str.ofString "short") == (Str.ofString "call"))=false:=by decide +kernel
theorem b2F:((Str.ofString "short") == (Str.ofString "in"))=false:=by decide +kernel
theorem a9q:((Str.ofString "short") == (Str.ofString "over"))=false:=by decide +kernel
theorem a7T:((Str.ofString "short") == (Str.ofString "begin"))=false:=by decide +kernel
theorem a6E:((Str.ofString "short") == (Str.ofString "start"))=false:=by decide +kernel
theorem a8K:((Str.ofString "short") == (Str.ofString "short"))=true:=by decide +kernel
theorem a7i:((Str.ofString "short") == (Str.ofString "along"))=false:=by decide +kernel
theorem a6e:((Str.ofString "short") == (Str.ofString "within"))=false:=by decide +kernel
theorem b3s:((Str.ofString "short") == (Str.ofString "at"))=false:=by decide +kernel
theorem b0L:((Str.ofString "short") == (Str.ofString "out"))=false:=by decide +kernel
theorem a7L:PyData.strOk (Str.ofString "along")=true:=by decide +kernel
theorem a9v:((Str.ofString "along") == (Str.ofString "step"))=false:=by decide +kernel
theorem a9K:((Str.ofString "along") == (Str.ofString "call"))=false:=by decide +kernel
theorem b2H:((Str.ofString "along") == (Str.ofString "in"))=false:=by decide +kernel
theorem a9G:((Str.ofString "along") == (Str.ofString "over"))=false:=by decide +kernel
theorem a6M:((Str.ofString "along") == (Str.ofString "begin"))=false:=by decide +kernel
theorem a8i:((Str.ofString "along") == (Str.ofString "start"))=false:=by decide +kernel
theorem a8W:((Str.ofString "along") == (Str.ofString "short"))=false:=by decide +kernel
theorem a8Q:((Str.ofString "along") == (Str.ofString "along"))=true:=by decide +kernel
theorem a6h:((Str.ofString "along") == (Str.ofString "within"))=false:=by decide +kernel
theorem b3e:((Str.ofString "along") == (Str.ofString "at"))=false:=by decide +kernel
theorem b2h:((Str.ofString "along") == (Str.ofString "out"))=false:=by decide +kernel
theorem a5C:PyData.strOk (Str.ofString "within")=true:=by decide +kernel
theorem a8q:((Str.ofString "within") == (Str.ofString "step"))=false:=by decide +kernel
theorem a6m:((Str.ofString "within") == (Str.ofString "call"))=false:=by decide +kernel
theorem b1U:((Str.ofString "within") == (Str.ofString "in"))=false:=by decide +kernel
theorem a8z:((Str.ofString "within") == (Str.ofString "over"))=false:=by decide +kernel
theorem a6f:((Str.ofString "within") == (Str.ofString "begin"))=false:=by decide +kernel
theorem a5Z:((Str.ofString "within") == (Str.ofString "start"))=false:=by decide +kernel
theorem a6g:((Str.ofString "within") == (Str.ofString "short"))=false:=by decide +kernel
theorem a6a:((Str.ofString "within") == (Str.ofString "along"))=false:=by decide +kernel
theorem a5U:((Str.ofString "within") == (Str.ofString "within"))=true:=by decide +kernel
theorem b2r:((Str.ofString "within") == (Str.ofString "at"))=false:=by decide +kernel
theorem a9s:((Str.ofString "within") == (Str.ofString "out"))=false:=by decide +kernel
theorem b7p:PyData.strOk (Str.ofString "at")=true:=by decide +kernel
theorem b4Q:((Str.ofString "at") == (Str.ofString "step"))=false:=by decide +kernel
theorem b4w:((Str.ofString "at") == (Str.ofString "call"))=false:=by decide +kernel
theorem b7H:((Str.ofString "at") == (Str.ofString "in"))=false:=by decide +kernel
theorem b3X:((Str.ofString "at") == (Str.ofString "over"))=false:=by decide +kernel
theorem b3h:((Str.ofString "at") == (Str.ofString "begin"))=false:=by decide +kernel
theorem b3t:((Str.ofString "at") == (Str.ofString "start"))=false:=by decide +kernel
theorem b2R:((Str.ofString "at") == (Str.ofString "short"))=false:=by decide +kernel
theorem b3b:((Str.ofString "at") == (Str.ofString "along"))=false:=by decide +kernel
theorem b1K:((Str.ofString "at") == (Str.ofString "within"))=false:=by decide +kernel
theorem b7v:((Str.ofString "at") == (Str.ofString "at"))=true:=by decide +kernel
theorem b6I:((Str.ofString "at") == (Str.ofString "out"))=false:=by decide +kernel
theorem b9N:PyData.strOk (Str.ofString "out")=true:=by decide +kernel
theorem b2V:((Str.ofString "out") == (Str.ofString "step"))=false:=by decide +kernel
theorem b3k:((Str.ofString "out") == (Str.ofString "call"))=false:=by decide +kernel
theorem b6D:((Str.ofString "out") == (Str.ofString "in"))=false:=by decide +kernel
theorem b3c:((Str.ofString "out") == (Str.ofString "over"))=false:=by decide +kernel
theorem b2t:((Str.ofString "out") == (Str.ofString "begin"))=false:=by decide +kernel
theorem b1Z:((Str.ofString "out") == (Str.ofString "start"))=false:=by decide +kernel
theorem b0h:((Str.ofString "out") == (Str.ofString "short"))=false:=by decide +kernel
theorem b0c:((Str.ofString "out") == (Str.ofString "along"))=false:=by decide +kernel
theorem a9x:((Str.ofString "out") == (Str.ofString "within"))=false:=by decide +kernel
theorem b6J:((Str.ofString "out") == (Str.ofString "at"))=false:=by decide +kernel
theorem b6p:((Str.ofString "out") == (Str.ofString "out"))=true:=by decide +kernel
end CM
namespace CM
open PySem L2 DL
inductive b9Y where
 |step (t:List Nat) | call (g:Nat) (into back over:List Nat)
structure Edge where
 p:Nat
 q:Nat
 cost:Nat
 k:b9Y
structure Fn where
 places:Nat
 facts:Nat
 edges:List Edge
abbrev i9:=List Fn
inductive Mv where | step | over | inn
 deriving DecidableEq
def Mv.w:Mv->Str | .step=> "step" | .over=> "over" | .inn=> "in"
inductive Clm where
 |within (f a p d c:Nat) | at (f p d c:Nat)
inductive Row where
 |begin (f d:Int) | mv (w:Mv) (k n e:Int) | short (k n j e:Int) | start (d:Int) | along (k j:Int)
abbrev nD(n:Nat):D:=.int (n:Int)
def tD(t:List Nat):D:=.tup (t.map nD)
def eD(e:Edge):D:=match e.k with
 |.step t=>.tup [.str "step",nD e.p,nD e.q,nD e.cost,tD t]
 |.call g i b o=>.tup [.str "call",nD e.p,nD e.q,nD e.cost,nD g,tD i,tD b,tD o]
def clD:Clm->D
 |.within f a p d c=>.tup [.str "within",nD f,nD a,nD p,nD d,nD c]
 |.at f p d c=>.tup [.str "at",nD f,nD p,nD d,nD c]
def rD:Row->D
 |.begin f d=>.tup [.str "begin",.int f,.int d]
 |.mv w k n e=>.tup [.str w.w,.int k,.int n,.int e]
 |.short k n j e=>.tup [.str "short",.int k,.int n,.int j,.int e]
 |.start d=>.tup [.str "start",.int d]
 |.along k j=>.tup [.str "along",.int k,.int j]
def oD{α:Type}(f:α->D):Option α->D | none=>.non | some a=>f a
def Edge.word(e:Edge):Str:=match e.k with | .step _=> "step" | .call _ _ _ _=> "call"
def Edge.isStep(e:Edge):Bool:=match e.k with | .step _=>true | .call _ _ _ _=>false
theorem b9m(h:Hh)(e:Edge):ixD h (eD e) (.int 0)=some (.str e.word):=by
 unfold eD Edge.word;cases e.k <;> exact b6Y ..
theorem b5g(h:Hh)(e:Edge):ixD h (eD e) (.int 1)=some (nD e.p):=by
 unfold eD;cases e.k <;> exact b8t ..
theorem b2l(h:Hh)(e:Edge):ixD h (eD e) (.int 2)=some (nD e.q):=by
 unfold eD;cases e.k <;> exact b7b ..
theorem b1T(h:Hh)(e:Edge):ixD h (eD e) (.int 3)=some (nD e.cost):=by
 unfold eD;cases e.k <;> exact b7P ..
theorem a0s(e:Edge):O0 (eD e)=false:=by unfold eD;cases e.k <;> rfl
theorem b0Z(c:Clm):O0 (clD c)=false:=by cases c <;> rfl
def tOk(t:List Nat)(n m:Nat):Prop:=t.length=n/\∀ x ∈ t,x < 2 ^ m
def eOk(C:i9)(F:Fn)(e:Edge):Prop:=e.p < F.places/\e.q < F.places/\1 <= e.cost/\e.cost <= 10 ^ 18/\match e.k with
 |.step t=>tOk t F.facts F.facts
 |.call g i b o=>∃ G,C[g]?=some G/\tOk i F.facts G.facts/\tOk b G.facts F.facts/\tOk o F.facts F.facts
structure WF(C:i9):Prop where
 one:1 <= C.length
 six:C.length <= 6
 fn:∀ (f:Nat) (F:Fn),C[f]?=some F->1 <= F.places/\F.places <= 10/\1 <= F.facts/\F.facts <= 6/\F.edges.length <= 100/\∀ e ∈ F.edges,eOk C F e
def ChD(h:Hh)(d:D)(C:i9):Prop:=∃ fs,w6 h d=some fs/\fs.length=C.length/\∀ (i:Nat) (F:Fn),C[i]?=some F->∃ e,fs[i]?=some (.tup [nD F.places,nD F.facts,e])/\w6 h e=some (F.edges.map eD)
theorem ChD.mono{h h':Hh}{d:D}{C:i9}(p:Pre h h')(c:ChD h d C):ChD h' d C:=by
 obtain ⟨fs,h1,h2,h3⟩:=c;exact ⟨fs,p.ls h1,h2,fun i F e=>let ⟨x,a,b⟩:=h3 i F e;⟨x,a,p.ls b⟩⟩
theorem ChD.fn{h:Hh}{d:D}{C:i9}(c:ChD h d C){f:Nat}{F:Fn}(e:C[f]?=some F):∃ x,ixD h d (nD f)=some (.tup [nD F.places,nD F.facts,x])/\w6 h x=some (F.edges.map eD):=by
 obtain ⟨fs,h1,h2,h3⟩:=c;obtain ⟨x,a,b⟩:=h3 f F e;exact ⟨x,by rw [r9 h1,atN];exact a,b⟩
theorem ChD.len{h:Hh}{d:D}{C:i9}(c:ChD h d C):a2Z h d=some C.length:=by
 obtain ⟨fs,h1,h2,h3⟩:=c;rw [p6 h1,h2]
def fD(F:Fn):D:=.tup [nD F.places,nD F.facts,.lst (F.edges.map eD)]
def cD(C:i9):D:=.lst (C.map fD)
theorem ChD.of(h:Hh)(C:i9):ChD h (cD C) C:=⟨C.map fD,rfl,by simp,fun i F e=>⟨.lst (F.edges.map eD),by rw [List.getElem?_map,e];rfl,rfl⟩⟩
theorem b8z(x:Nat):Builtin.bitAnd (x:Int) 1=((x % 2:Nat):Int):=by
 unfold Builtin.bitAnd;rw [decide_eq_true (show (0:Int) <= (x:Int) by omega),decide_eq_true (show (0:Int) <= 1 by decide)];show (((x:Int).toNat &&& (1:Int).toNat:Nat):Int)=_;have e1:((x:Int).toNat)=x:=by omega
 have e2:((1:Int).toNat)=1:=rfl;rw [e1,e2,Nat.and_one_is_mod]
theorem b2s(m d:Nat):(m:Int) / 2 ^ d=((m / 2 ^ d:Nat):Int):=by
 have e:(2:Int) ^ d=((2 ^ d:Nat):Int):=by simp
 rw [e];exact (Int.natCast_ediv m (2 ^ d)).symm
theorem b4P(m d:Nat):Builtin.bitAnd ((m:Int) / 2 ^ d) 1=if m.testBit d then 1 else 0:=by
 rw [b2s,b8z,Nat.testBit_eq_decide_div_mod_eq]
 have:=Nat.mod_two_eq_zero_or_one (m / 2 ^ d)
 rcases this with h | h <;> simp [h]
theorem b8x(m d:Nat):(Builtin.bitAnd ((m:Int) / 2 ^ d) 1 != 0)=m.testBit d:=by
 rw [b4P];cases m.testBit d <;> rfl
theorem b2g(m d:Nat):(Builtin.bitAnd ((m:Int) / 2 ^ d) 1 == 1)=m.testBit d:=by
 rw [b4P];cases m.testBit d <;> rfl
theorem a2z(a b:Nat):Builtin.bitAnd (a:Int) (b:Int)=((a &&& b:Nat):Int):=by
 unfold Builtin.bitAnd;rw [decide_eq_true (show (0:Int) <= (a:Int) by omega),decide_eq_true (show (0:Int) <= (b:Int) by omega)];show (((a:Int).toNat &&& (b:Int).toNat:Nat):Int)=_
 simp
theorem a4h(a b:Nat):Builtin.bitOr (a:Int) (b:Int)=((a ||| b:Nat):Int):=by
 unfold Builtin.bitOr Builtin.bitAnd Builtin.bitNot;rw [decide_eq_false (show ¬ (0:Int) <= -(a:Int) - 1 by omega),decide_eq_false (show ¬ (0:Int) <= -(b:Int) - 1 by omega)];dsimp only;rw [show (-(-(a:Int) - 1) - 1).toNat=a by omega,show (-(-(b:Int) - 1) - 1).toNat=b by omega];omega
theorem b0w(k:Nat):(1:Int) * 2 ^ ((k:Nat):Int).toNat=((2 ^ k:Nat):Int):=by
 rw [Int.one_mul,Int.toNat_natCast];simp
theorem a0b(t:List Nat):nrD (tD t)=true:=E6 (fun _=>rfl) t
theorem b6n(e:Edge):nrD (eD e)=true:=by
 unfold eD
 cases e.k with
 |step t=>show (true && (true && (true && (true && (nrD (tD t) && true)))))=true;rw [a0b];rfl
 |call g i b o=>show (true && (true && (true && (true && (true && (nrD (tD i) && (nrD (tD b) && (nrD (tD o) && true))))))))=true;rw [a0b,a0b,a0b];rfl
theorem b0B(c:Clm):nrD (clD c)=true:=by cases c <;> rfl
theorem a6U(r:Row):nrD (rD r)=true:=by cases r <;> rfl
def a1Q(m:Nat):List Nat:=(List.range (Builtin.Int.intBits (m:Int))).filter fun d=>m.testBit d
theorem b1S{m n:Nat}(h:m < 2 ^ n):Builtin.Int.intBits (m:Int) <= n:=intBits_le_iff.mpr (by simpa using h)
theorem b3Y{m e:Nat}(h:Builtin.Int.intBits (m:Int) <= e):m.testBit e=false:=by
 have:=intBits_le_iff.mp h
 exact Nat.testBit_lt_two_pow (by simpa using this)
theorem mem_facts{m e:Nat}:e ∈ a1Q m ↔ m.testBit e=true:=by
 unfold a1Q;rw [List.mem_filter,List.mem_range];refine ⟨fun q=>q.2,fun q=>⟨?_,q⟩⟩
 rcases Nat.lt_or_ge e (Builtin.Int.intBits (m:Int)) with x | x
 ·exact x
 ·rw [b3Y x] at q;cases q
def br(t:List Nat)(d:Nat)(e:Int):Bool:=decide (0 <= e) && (t.getD d 0).testBit e.toNat
theorem a5Q(m:Nat)(e:Int):inF (.int e) ((a1Q m).map nD)=(decide (0 <= e) && m.testBit e.toNat):=by
 rw [Bool.eq_iff_iff];unfold inF;rw [List.any_map,List.any_eq_true,Bool.and_eq_true,decide_eq_true_iff]
 constructor
 ·rintro ⟨x,hx,he⟩
  have he:(x:Int)=e:=by simpa [eqF] using he
  subst he;exact ⟨by omega,by simpa using mem_facts.mp hx⟩
 ·rintro ⟨h0,hb⟩
  exact ⟨e.toNat,mem_facts.mpr hb,by simp [eqF];omega⟩
theorem a0V(ns:List Nat):(ns.map nD).all a0O=true:=by
 rw [List.all_map];simp [a0O,List.all_eq_true]
theorem tOk.get{t:List Nat}{n m d:Nat}(h:tOk t n m)(hd:d < n):t[d]?=some (t.getD d 0)/\t.getD d 0 < 2 ^ m:=by
 obtain ⟨h1,h2⟩:=h;have hl:d < t.length:=by omega
 rw [List.getD_eq_getElem?_getD,List.getElem?_eq_getElem hl];exact ⟨rfl,h2 _ (List.getElem_mem hl)⟩
theorem a0p(h:Hh){t:List Nat}{n m d:Nat}(ht:tOk t n m)(hd:d < n):ixD h (tD t) (nD d)=some (nD (t.getD d 0)):=by
 show atI (t.map nD) (d:Int)=_;rw [atN,List.getElem?_map,(ht.get hd).1];rfl
theorem b2G{x m:Nat}(hx:x < 2 ^ m)(hm:m <= 6):x < 64:=Nat.lt_of_lt_of_le hx (Nat.pow_le_pow_right (n:=2) (by decide) hm)
def B4(C:i9)(f:Nat)(n:Int):Option Edge:=if 0 <= n then (C[f]?).bind fun F=>F.edges[n.toNat]? else none
def Edge.tab(e:Edge)(w:Mv):List Nat:=match w,e.k with
 |.step,.step t=>t
 |.inn,.call _ i _ _=>i
 |.over,.call _ _ _ o=>o
 |_,_=>[]
def takes(C:i9)(f p d:Nat)(w:Mv)(n e:Int):Option Edge:=(B4 C f n).bind fun E=>if (E.isStep == (w == .step))=true/\E.p=p/\br (E.tab w) d e=true then some E else none
def i7(cs:List Clm)(k:Int):Option Clm:=if 0 <= k then cs[k.toNat]? else none
def i6(C:i9)(st:Nat)(cs:List Clm):Row->Option Clm
 |.begin f d=>if 0 <= f/\0 <= d then (C[f.toNat]?).bind fun F=>if d < F.facts then some (.within f.toNat d.toNat 0 d.toNat 0) else none else none
 |.start d=>if 0 <= d then (C[0]?).bind fun F=>if d < F.facts/\st.testBit d.toNat=true then some (.at 0 0 d.toNat 0) else none else none
 |.mv .inn k n e=>match i7 cs k with
  |some (.at f p d c)=>(takes C f p d .inn n e).bind fun E=>match E.k with | .call g _ _ _=>some (.at g 0 e.toNat (c + E.cost)) | _=>none
  |_=>none
 |.mv w k n e=>match i7 cs k with
  |some (.within f a p d c)=>(takes C f p d w n e).map fun E=>.within f a E.q e.toNat (c + E.cost)
  |_=>none
 |.short k n j e=>match i7 cs k,i7 cs j with
  |some (.within f a p d c),some (.within g b x y c')=>(takes C f p d .inn n b).bind fun E=>match E.k with
   |.call g' _ bk _=>(C[g']?).bind fun G=>if g'=g/\x + 1=G.places/\br bk y e=true then some (.within f a E.q e.toNat (c + E.cost + c')) else none
   |_=>none
  |_,_=>none
 |.along k j=>match i7 cs k,i7 cs j with
  |some (.at f p a c),some (.within g b q d c')=>if p=0/\g=f/\b=a then some (.at f q d (c + c')) else none
  |_,_=>none
theorem M6{C:i9}{f p d:Nat}{w:Mv}{n e:Int}{E:Edge}(ht:takes C f p d w n e=some E):B4 C f n=some E/\(E.isStep == (w == .step))=true/\E.p=p/\br (E.tab w) d e=true/\0 <= e:=by
 unfold takes at ht
 cases q3:B4 C f n with
 |none=>rw [q3] at ht;cases ht
 |some E' =>
  rw [q3] at ht;have ht:(if (E'.isStep == (w == .step))=true/\E'.p=p/\br (E'.tab w) d e=true then some E' else none)=some E:=ht
  split at ht
  ·rename_i z;cases ht;refine ⟨rfl,z.1,z.2.1,z.2.2,?_⟩
   have:=z.2.2
   unfold br at this;rw [Bool.and_eq_true] at this;exact of_decide_eq_true this.1
  ·cases ht
theorem K3{C:i9}{f:Nat}{n:Int}{E:Edge}(h:B4 C f n=some E):∃ F,0 <= n/\C[f]?=some F/\F.edges[n.toNat]?=some E:=by
 unfold B4 at h
 split at h
 ·rename_i h0
  cases q:C[f]? with
  |none=>rw [q] at h;cases h
  |some F=>rw [q] at h;exact ⟨F,h0,rfl,h⟩
 ·cases h
theorem U8{C:i9}(wf:WF C){f p d:Nat}{n e:Int}{E:Edge}(ht:takes C f p d .inn n e=some E):∃ F g i b o G,C[f]?=some F/\E.k = .call g i b o/\C[g]?=some G/\tOk i F.facts G.facts/\tOk b G.facts F.facts/\tOk o F.facts F.facts/\E.q < F.places/\E.p=p/\br i d e=true/\0 <= e:=by
 obtain ⟨h1,h2,h3,h4,h5⟩:=M6 ht;obtain ⟨F,h0,hF,hE⟩:=K3 h1;obtain ⟨o1,o2,o3,o4,o5⟩:=(wf.fn f F hF).2.2.2.2.2 E (List.mem_of_getElem? hE);obtain ⟨p',q',c',k'⟩:=E
 cases k' with
 |step t=>cases h2
 |call g i b o =>
  obtain ⟨G,hG,t1,t2,t3⟩:=o5;exact ⟨F,g,i,b,o,G,hF,rfl,hG,t1,t2,t3,o2,h3,h4,h5⟩
def Q6(C:i9):Clm->Prop
 |.within f a p d _=>∃ F,C[f]?=some F/\a < F.facts/\p < F.places/\d < F.facts
 |.at f p d _=>∃ F,C[f]?=some F/\p < F.places/\d < F.facts
theorem B2{C:i9}{cs:List Clm}(ok:∀ c ∈ cs,Q6 C c){k:Int}{c:Clm}(h:i7 cs k=some c):Q6 C c:=by
 unfold i7 at h
 split at h
 ·exact ok c (List.mem_of_getElem? h)
 ·cases h
def D8(C:i9)(st:Nat):List Row->List Clm->Option (List Clm)
 |[],cs=>some cs
 |r :: rs,cs=>(i6 C st cs r).bind fun c=>D8 C st rs (cs ++ [c])
theorem a2D{C:i9}(wf:WF C){st:Nat}{cs:List Clm}{r:Row}{c:Clm}(ok:∀ c ∈ cs,Q6 C c)(h:i6 C st cs r=some c):Q6 C c:=by
 have bt:∀ {t:List Nat} {n m d:Nat} {e:Int},tOk t n m->d < n->br t d e=true->e.toNat < m:=fun {t n m d e} ht hd hb=>by
  unfold br at hb;rw [Bool.and_eq_true] at hb;have hx:=(ht.get hd).2
  rcases Nat.lt_or_ge e.toNat m with z | z
  ·exact z
  ·rw [Nat.testBit_lt_two_pow (Nat.lt_of_lt_of_le hx (Nat.pow_le_pow_right (by decide) z))] at hb;exact absurd hb.2 Bool.false_ne_true
 cases r with
 |begin f d =>
  have h:(if 0 <= f/\0 <= d then (C[f.toNat]?).bind fun F=>if d < F.facts then some (Clm.within f.toNat d.toNat 0 d.toNat 0) else none else none)=some c:=h
  split at h
  ·rename_i z
   cases q:C[f.toNat]? with
   |none=>rw [q] at h;cases h
   |some F =>
    rw [q] at h;have h:(if d < F.facts then some (Clm.within f.toNat d.toNat 0 d.toNat 0) else none)=some c:=h
    split at h
    ·cases h;exact ⟨F,q,by omega,(wf.fn _ F q).1,by omega⟩
    ·cases h
  ·cases h
 |start d =>
  have h:(if 0 <= d then (C[0]?).bind fun F=>if d < F.facts/\st.testBit d.toNat=true then some (Clm.at 0 0 d.toNat 0) else none else none)=some c:=h
  split at h
  ·cases q:C[0]? with
   |none=>rw [q] at h;cases h
   |some F =>
    rw [q] at h;have h:(if d < F.facts/\st.testBit d.toNat=true then some (Clm.at 0 0 d.toNat 0) else none)=some c:=h
    split at h
    ·rename_i z z2
     cases h;exact ⟨F,q,(wf.fn _ F q).1,by omega⟩
    ·cases h
  ·cases h
 |mv w k n e =>
  cases w with
  |inn =>
   have h:(match i7 cs k with
    |some (.at f p d c)=>(takes C f p d .inn n e).bind fun E=>match E.k with | .call g _ _ _=>some (Clm.at g 0 e.toNat (c + E.cost)) | _=>none
    |_=>none)=some c:=h
   cases q:i7 cs k with
   |none=>rw [q] at h;cases h
   |some x =>
    rw [q] at h
    cases x with
    |within f a p d x=>cases h
    |«at» f p d x =>
     obtain ⟨F,hF,o1,o2⟩:=B2 ok q;dsimp only at h
     cases ht:takes C f p d .inn n e with
     |none=>rw [ht] at h;cases h
     |some E =>
      rw [ht] at h;obtain ⟨F',g,i,b,o,G,hF',hk',hG,t1,t2,t3,_,_,hb,_⟩:=U8 wf ht;rw [hF] at hF';cases hF'
      have h:(match E.k with | .call g _ _ _=>some (Clm.at g 0 e.toNat (x + E.cost)) | _=>none)=some c:=h;rw [hk'] at h;cases h;exact ⟨G,hG,(wf.fn g G hG).1,bt t1 o2 hb⟩
  |step =>
   have h:(match i7 cs k with | some (.within f a p d c)=>(takes C f p d .step n e).map fun E=>Clm.within f a E.q e.toNat (c + E.cost) | _=>none)=some c:=h
   cases q:i7 cs k with
   |none=>rw [q] at h;cases h
   |some x =>
    rw [q] at h
    cases x with
    |«at» f p d x=>cases h
    |within f a p d x =>
     obtain ⟨F,hF,o1,o2,o3⟩:=B2 ok q;dsimp only at h
     cases ht:takes C f p d .step n e with
     |none=>rw [ht] at h;cases h
     |some E =>
      rw [ht] at h;cases h;obtain ⟨h1,h2,h3,h4,h5⟩:=M6 ht;obtain ⟨F',_,hF',hE⟩:=K3 h1;rw [hF] at hF';cases hF'
      obtain ⟨e1,e2,e3,e4,e5⟩:=(wf.fn f F hF).2.2.2.2.2 E (List.mem_of_getElem? hE);obtain ⟨ep,eq,ec,ek⟩:=E
      cases ek with
      |step t=>exact ⟨F,hF,o1,e2,bt e5 o3 h4⟩
      |call g i b o=>cases h2
  |over =>
   have h:(match i7 cs k with | some (.within f a p d c)=>(takes C f p d .over n e).map fun E=>Clm.within f a E.q e.toNat (c + E.cost) | _=>none)=some c:=h
   cases q:i7 cs k with
   |none=>rw [q] at h;cases h
   |some x =>
    rw [q] at h
    cases x with
    |«at» f p d x=>cases h
    |within f a p d x =>
     obtain ⟨F,hF,o1,o2,o3⟩:=B2 ok q;dsimp only at h
     cases ht:takes C f p d .over n e with
     |none=>rw [ht] at h;cases h
     |some E =>
      rw [ht] at h;cases h;obtain ⟨h1,h2,h3,h4,h5⟩:=M6 ht;obtain ⟨F',_,hF',hE⟩:=K3 h1;rw [hF] at hF';cases hF'
      obtain ⟨e1,e2,e3,e4,e5⟩:=(wf.fn f F hF).2.2.2.2.2 E (List.mem_of_getElem? hE);obtain ⟨ep,eq,ec,ek⟩:=E
      cases ek with
      |step t=>cases h2
      |call g i b o =>
       obtain ⟨G,hG,t1,t2,t3⟩:=e5;exact ⟨F,hF,o1,e2,bt t3 o3 h4⟩
 |short k n j e =>
  have h:(match i7 cs k,i7 cs j with
   |some (.within f a p d c),some (.within g b x y c')=>(takes C f p d .inn n b).bind fun E=>match E.k with
    |.call g' _ bk _=>(C[g']?).bind fun G=>if g'=g/\x + 1=G.places/\br bk y e=true then some (Clm.within f a E.q e.toNat (c + E.cost + c')) else none
    |_=>none
   |_,_=>none)=some c:=h
  cases q:i7 cs k with
  |none=>rw [q] at h;cases h
  |some x1 =>
   cases q2:i7 cs j with
   |none=>rw [q,q2] at h;cases x1 <;> cases h
   |some x2 =>
    rw [q,q2] at h
    cases x1 with
    |«at» f p d x=>cases h
    |within f a p d x =>
     cases x2 with
     |«at» f p d x=>cases h
     |within g b px y x' =>
      obtain ⟨F,hF,o1,o2,o3⟩:=B2 ok q;obtain ⟨G,hG,p1,p2,p3⟩:=B2 ok q2;dsimp only at h
      cases ht:takes C f p d .inn n b with
      |none=>rw [ht] at h;cases h
      |some E =>
       rw [ht] at h;obtain ⟨F',g',i,bk,o,G',hF',hk',hG',t1,t2,t3,eq,_,hb,_⟩:=U8 wf ht;rw [hF] at hF';cases hF'
       have h:(match E.k with
        |.call g' _ bk _=>(C[g']?).bind fun G=>if g'=g/\px + 1=G.places/\br bk y e=true then some (Clm.within f a E.q e.toNat (x + E.cost + x')) else none
        |_=>none)=some c:=h
       rw [hk'] at h;have h:((C[g']?).bind fun G=>if g'=g/\px + 1=G.places/\br bk y e=true then some (Clm.within f a E.q e.toNat (x + E.cost + x')) else none)=some c:=h;rw [hG'] at h;have h:(if g'=g/\px + 1=G'.places/\br bk y e=true then some (Clm.within f a E.q e.toNat (x + E.cost + x')) else none)=some c:=h
       by_cases z:g'=g/\px + 1=G'.places/\br bk y e=true
       ·rw [if_pos z] at h;have h9:=Option.some.inj h;obtain ⟨z1,z2,z3⟩:=z;subst z1;rw [hG] at hG';cases hG'
        rw [<- h9];exact ⟨F,hF,o1,eq,bt t2 p3 z3⟩
       ·rw [if_neg z] at h;cases h
 |along k j =>
  have h:(match i7 cs k,i7 cs j with | some (.at f p a c),some (.within g b q d c')=>if p=0/\g=f/\b=a then some (Clm.at f q d (c + c')) else none | _,_=>none)=some c:=h
  cases q:i7 cs k with
  |none=>rw [q] at h;cases h
  |some x1 =>
   cases q2:i7 cs j with
   |none=>rw [q,q2] at h;cases x1 <;> cases h
   |some x2 =>
    rw [q,q2] at h
    cases x1 with
    |within f a p d x=>cases h
    |«at» f p d x =>
     cases x2 with
     |«at» f p d x=>cases h
     |within g b px y x' =>
      obtain ⟨G,hG,p1,p2,p3⟩:=B2 ok q2;have h:(if p=0/\g=f/\b=d then some (Clm.at f px y (x + x')) else none)=some c:=h
      split at h
      ·rename_i z;obtain ⟨z1,z2,z3⟩:=z;subst z2;cases h;exact ⟨G,hG,p2,p3⟩
      ·cases h
end CM
namespace CM
open PySem L2 DL
def Pd(h:Hh)(d:D)(p:PyData)(n:Nat):Prop:=IsP h d p/\p.canLay0=true/\p.depth <= n
def Pds(h:Hh)(ds:List D)(ps:List PyData)(n:Nat):Prop:=a3M h ds ps/\PyData.canLayAll0 ps=true/\PyData.depthAll ps <= n
theorem Pd.int{h:Hh}{n:Nat}(i:Int):Pd h (.int i) (.int i) n:=⟨.int i,rfl,Nat.zero_le _⟩
theorem Pd.str{h:Hh}{n:Nat}{x:Str}(e:PyData.strOk x=true):Pd h (.str x) (.str x) n:=⟨.str x,e,Nat.zero_le _⟩
theorem Pds.nil{h:Hh}{n:Nat}:Pds h [] [] n:=⟨.nil,rfl,Nat.zero_le _⟩
theorem Pds.cons{h:Hh}{n:Nat}{d:D}{p:PyData}{ds:List D}{ps:List PyData}(a:Pd h d p n)(b:Pds h ds ps n):Pds h (d :: ds) (p :: ps) n :=
 ⟨.cons a.1 b.1,by show (p.canLay0 && PyData.canLayAll0 ps)=true;rw [a.2.1,b.2.1];rfl,by show max p.depth (PyData.depthAll ps) <= n;exact Nat.max_le.mpr ⟨a.2.2,b.2.2⟩⟩
theorem Pd.tup{h:Hh}{n:Nat}{ds:List D}{ps:List PyData}(a:Pds h ds ps n):Pd h (.tup ds) (.tuple ps) (n + 1):=⟨.tup a.1,a.2.1,Nat.succ_le_succ a.2.2⟩
theorem Pd.lst{h:Hh}{n:Nat}{ds:List D}{ps:List PyData}(a:Pds h ds ps n):Pd h (.lst ds) (.list ps) (n + 1):=⟨.lst a.1,a.2.1,Nat.succ_le_succ a.2.2⟩
theorem Pds.map{τ:Type}{h:Hh}{n:Nat}{f:τ->D}{g:τ->PyData}:∀ {xs:List τ},(∀ x,Pd h (f x) (g x) n)->Pds h (xs.map f) (xs.map g) n
 |[],_=>.nil
 |x :: xs,k=>.cons (k x) (Pds.map k)
theorem Pds.get{h:Hh}{n:Nat}:∀ {ds:List D} {ps:List PyData},ds.length=ps.length->(∀ (i:Nat) (d:D) (p:PyData),ds[i]?=some d->ps[i]?=some p->Pd h d p n)->Pds h ds ps n
 |[],[],_,_=>.nil
 |d :: ds,p :: ps,e,k=>.cons (k 0 d p rfl rfl) (Pds.get (by simpa using e) fun i a b h1 h2=>k (i + 1) a b (by simpa using h1) (by simpa using h2))
theorem Pd.shaped{h:Hh}{n:Nat}{d:D}{p:PyData}(a:Pd h d p n)(e:n <= 64):SeqAt.shaped p=true:=by
 unfold SeqAt.shaped;rw [a.2.1,decide_eq_true (Nat.le_trans a.2.2 e)];rfl
theorem T9{neg:Bool}{x y:D}{h:Hh}{Q:DK}{p:PyData}{n:Nat}(e:eqS x y=none)(a:Pd h x p n)(b:Pd h y p n)(hn:n <= 64)(q:Q (.bl (!neg)) h):pEq neg x y h Q:=by
 unfold pEq;rw [e];refine ⟨p,p,a.1,b.1,a.shaped hn,b.shaped hn,?_⟩;rw [SeqAt.eqv_refl p a.2.1]
 cases neg <;> exact q
def clP:Clm->PyData
 |.within f a p d c=>.tuple [.str "within",.int f,.int a,.int p,.int d,.int c]
 |.at f p d c=>.tuple [.str "at",.int f,.int p,.int d,.int c]
def rP:Row->PyData
 |.begin f d=>.tuple [.str "begin",.int f,.int d]
 |.mv w k n e=>.tuple [.str w.w,.int k,.int n,.int e]
 |.short k n j e=>.tuple [.str "short",.int k,.int n,.int j,.int e]
 |.start d=>.tuple [.str "start",.int d]
 |.along k j=>.tuple [.str "along",.int k,.int j]
theorem b2W(h:Hh)(c:Clm):Pd h (clD c) (clP c) 1:=by
 cases c with
 |within=>exact .tup (.cons (.str a5C) (.cons (.int _) (.cons (.int _) (.cons (.int _) (.cons (.int _) (.cons (.int _) .nil))))))
 |«at»=>exact .tup (.cons (.str b7p) (.cons (.int _) (.cons (.int _) (.cons (.int _) (.cons (.int _) .nil)))))
theorem b8k(h:Hh)(r:Row):Pd h (rD r) (rP r) 1:=by
 cases r with
 |begin=>exact .tup (.cons (.str a9g) (.cons (.int _) (.cons (.int _) .nil)))
 |mv w=>exact .tup (.cons (.str (by cases w with | step=>exact Z3 | over=>exact a4u | inn=>exact b3n)) (.cons (.int _) (.cons (.int _) (.cons (.int _) .nil))))
 |short=>exact .tup (.cons (.str a7d) (.cons (.int _) (.cons (.int _) (.cons (.int _) (.cons (.int _) .nil)))))
 |start=>exact .tup (.cons (.str a8f) (.cons (.int _) .nil))
 |along=>exact .tup (.cons (.str a7L) (.cons (.int _) (.cons (.int _) .nil)))
end CM
namespace DL
open PySem PySem.Spec L2
def b3g(g:DSp)(is:List Int)(f:DA):DE:=fun δ h Q=>f δ h fun ds h1=>g (ds ++ is.map D.int) h1 Q
theorem RelDs.intsF{K:KP}{α:List Addr}{H:Hp}:∀ is:List Int,RelDs K α H (is.map D.int) (is.map V.int)
 |[]=>.nil
 |i :: r=>.cons (.int i) (RelDs.intsF r)
section
variable {X:Cx} {k m n:Nat} {ps:List Str} {g:DSp} {x kw:Str} {p pos kpos:Pos} {e e2:Expr} {es:List Expr} {f:DA} {fe:DE} {is:List Int}
end
end DL
namespace L2
open PySem PySem.Spec PyProof.Rows
section
variable {X:Cx}
theorem a3f:∀ (us:List Value) (a:Int),(∀ (j:Nat) (v:Value),us[j]?=some v->∃ t,v=Value.int (a + (j:Int)) t)->Vals ((List.range us.length).map fun k=>V.int (a + (k:Nat))) us
 |[],_,_=>.nil
 |u :: us,a,h=>by
  rw [List.length_cons,List.range_succ_eq_map,List.map_cons,List.map_map];refine .cons ?_ ?_
  ·obtain ⟨t,e⟩:=h 0 u rfl;exact ⟨t,e⟩
  ·have:=a3f us (a + 1) fun j v e=>by
    obtain ⟨t,q⟩:=h (j + 1) v (by simpa using e);exact ⟨t,by rw [q];congr 1;omega⟩
   have e:(List.range us.length).map ((fun k:Nat=>V.int (a + (k:Nat))) ∘ Nat.succ)=(List.range us.length).map fun k:Nat=>V.int (a + 1 + (k:Nat)):=List.map_congr_left fun k _=>by
    show V.int (a + ((k + 1:Nat):Int))=V.int (a + 1 + (k:Int))
    congr 1;omega
   rw [e];exact this
def b7X(ta:TA):TE:=fun σ H Q=>ta σ H fun vs H1=>∃ i j:Int,vs=[.int i,.int j]/\∀ l,H1 l=none->Q (.ref l) (upd H1 l (.rng i j))
theorem a5t{a b:Expr}{ta:TA}{p pos:Pos}(hg:Gl X "range")(hm:X.mg "range" = none)(ha:PA X [a,b] ta)(hs:starEach [a,b] X.env=[(false,eval a X.env),(false,eval b X.env)]:=by rfl)(hs2:starEach [b] X.env=[(false,eval b X.env)]:=by rfl) :
  PE X (.Call (.Name "range" p) [a,b] [] pos) (b7X ta):=by
 intro pins s σ H Q I h;refine Call_ (M1 I hg hm boot_range (PyProof.Rows.callWith_type1 (thn (ha pos pins s σ H _ I h) fun us s1 ⟨vs,H1,I1,r1,q1⟩=>?_) (by rw [hs,hs2]) (by rw [hs2];rfl)));obtain ⟨i,j,e,q⟩:=q1;subst e
 cases r1 with
 |cons r rr =>
  cases rr with
  |cons r' rr =>
   cases rr;obtain ⟨t,rfl⟩:=r;obtain ⟨t',rfl⟩:=r';refine call_range_2 ?_;exact ⟨.ref s1.heap.objs.size,_,I1.laid (fun b o e=>Heap.get?_push_of_some _ e) (Nat.le_refl _) (show ObjOk X.prog X.w _ _ _ (.rng i j) from ⟨_,_,_,Heap.get?_push_size _ rfl⟩),rfl,q _ (I1.hok.fresh (Nat.le_refl _))⟩
theorem a0F(hc:X.calm=true):CallR X (.type "list") (fun xs H Q=>∃ p i j,xs=[.ref p]/\H p=some (.rng i j)/\(-(2 ^ 62) <= i/\i < 2 ^ 62/\-(2 ^ 62) <= j/\j < 2 ^ 62)/\(j - i).toNat <= 16777216/\∀ l,H l=none->Q (.ref l) (upd H l (.lst ((List.range (j - i).toNat).map fun k=>V.int (i + (k:Nat)))))):=by
 intro pins s σ H xs us Q I r h;obtain ⟨p,i,j,rfl,hp,⟨b1,b2,b3,b4⟩,hz,q⟩:=h;obtain ⟨u,rfl,rx⟩:=O8 r;cases rx;obtain ⟨t,u,v,ho⟩:=I.hok p _ hp;refine call_list_range (n:=(j - i).toNat) (I.ok.hd hc) ho (small_one b1 b2 b3 b4) (by rw [rangeSize_one];split <;> omega) hz fun h' tk acc c' kp e it=>?_
 have r':Vals ((List.range (j - i).toNat).map fun k=>V.int (i + (k:Nat))) acc.toList:=by
  have:=a3f acc.toList i fun m v e=>by
   obtain ⟨t,z⟩:=it.2 m v (by rw [<- Array.getElem?_toList];exact e);exact ⟨t,by rw [z];congr 1;omega⟩
  rw [Array.length_toList,it.1] at this;exact this
 exact ⟨.ref s.heap.objs.size,_,I.laid (t':=tk) kp (Nat.le_refl _) (show ObjOk X.prog X.w _ h' _ (.lst _) from ⟨by rw [sizeLine_eq,List.length_map,List.length_range];exact hz,acc.toList,c',r',e⟩),rfl,q _ (I.hok.fresh (Nat.le_refl _))⟩
end
end L2
namespace DL
open PySem PySem.Spec L2
def a2u(f:DA):DN:=fun δ h Q=>f δ h fun ds h1=>match ds with
 |[.int i,.int j]=>(-(2 ^ 62) <= i/\i < 2 ^ 62/\-(2 ^ 62) <= j/\j < 2 ^ 62)/\(j - i).toNat <= 16777216/\Q (E4 i (j - i).toNat) h1
 |_=>False
theorem a3d{K:KP}{α:List Addr}{H:Hp}(i:Int)(n:Nat):RelDs K α H (E4 i n) ((List.range n).map fun k=>V.int (i + (k:Nat))):=by
 rw [v9];generalize List.range n=l
 induction l with
 |nil=>exact .nil
 |cons a r ih=>exact .cons (.int _) ih
section
variable {X:Cx} {a b:Expr} {p p2 pos pos2:Pos} {n:Nat} {f:DA}
theorem a3R(hc:X.calm=true)(hg:Gl X "list")(hm:X.mg "list" = none)(hg2:Gl X "range")(hm2:X.mg "range" = none)(ha:SA X [a,b] n f)(hs:starEach [a,b] X.env=[(false,eval a X.env),(false,eval b X.env)]:=by rfl)(hs2:starEach [b] X.env=[(false,eval b X.env)]:=by rfl)
  (he:starEach [.Call (.Name "range" p2) [a,b] [] pos2] X.env=(false,eval (.Call (.Name "range" p2) [a,b] [] pos2) X.env) :: starEach [] X.env:=by rfl) (hpl:(backTo pos (starEach [] X.env)).any (·.1)=false:=by rfl) :
  SN X (.Call (.Name "list" p) [.Call (.Name "range" p2) [a,b] [] pos2] [] pos) (a2u f):=PE.imp (Q0 (a0F hc) hg hm PyProof.Rows.boot_list (A4 (a5t hg2 hm2 ha hs hs2) N7 he) (by decide) (by decide) he hpl) fun σ H Q ⟨π,α,δ,h,Q',R,S,f,k⟩=>by
 refine ⟨π,α,δ,h,_,R,S,f,fun ds h1 α1 H1 vs f1 e1 R1 q1 l1=>?_⟩
 split at f1
 ·rename_i i j;obtain ⟨b1,hz,q⟩:=f1
  cases q1 with
  |cons r1 q1 =>
   cases q1 with
   |cons r2 q1 =>
    cases q1;cases r1;cases r2;refine ⟨i,j,rfl,fun l hl=>?_⟩;have e2:Ext α1 H1 α1 (upd H1 l (.rng i j)):=Ext.new hl;refine ⟨l,i,j,rfl,m8,b1,hz,fun l2 hl2=>?_⟩;exact LN.last (h:=h) k q (e1.trans e2) (R1.new hl) (a3d i _) hl2
 ·exact f1.elim
end
end DL
namespace L2
open PySem PySem.Spec PyProof.Rows
def E7(i j c:Int):Nat:=if i < j then ((j - i - 1) / c + 1).toNat else 0
structure G9(i j c:Int):Prop where
 i0:0 <= i
 i1:i <= 1000000
 j0:0 <= j
 j1:j <= 1000000
 c0:1 <= c
 c1:c <= 1000
theorem a0g{i j c:Int}(k:G9 i j c):Builtin.Range.rangeSize i j c=((E7 i j c:Nat):Int):=by
 obtain ⟨a1,a2,a3,a4,a5,a6⟩:=k;unfold Builtin.Range.rangeSize E7;rw [if_pos (show c > 0 by omega)];split
 ·have:=Int.ediv_nonneg (show 0 <= j - i - 1 by omega) (show 0 <= c by omega)
  omega
 ·rfl
theorem a0y{i j c:Int}(k:G9 i j c):Builtin.Range.small i j c=true:=by
 have hs:=a0g k;obtain ⟨a1,a2,a3,a4,a5,a6⟩:=k
 have hb:((E7 i j c:Nat):Int) <= 1000001:=by
  unfold E7;split
  ·have:(j - i - 1) / c <= j - i - 1:=Int.ediv_le_self _ (by omega)
   omega
  ·decide
 unfold Builtin.Range.small;rw [hs];simp only [Builtin.Range.rangeFitsLong,Bool.and_eq_true,Bool.or_eq_true,decide_eq_true_eq,beq_iff_eq];rw [if_pos (show c > 0 by omega)];refine ⟨⟨⟨⟨⟨by omega,by omega⟩,by omega,by omega⟩,by omega,by omega⟩,by omega,by omega⟩,.inr ?_⟩;rw [decide_eq_true (show (-2 ^ 63:Int) <= j + (c - 1) by omega),decide_eq_true (show j + (c - 1) < 2 ^ 63 by omega)];rfl
def Itq(lo c:Int)(n:Nat):It:=⟨fun i _=>i < n,fun i H x H'=>H'=H/\x = .int (lo + i * c),fun i _=>n <= i⟩
theorem a5K{P:Program}{w:World}{K:PySem.W.Frag}{tg:Expr}(it:Addr)(lo c:Int)(n:Nat):a3i P w K tg (Itq lo c n) [it] it (fun i h=>IsRangeIter h it (lo + (i:Nat) * c) ((n:Int) - (i:Nat)) c) where
 mem:=by simp
 obj:=fun i h st b hb=>by
  have e:b=it:=by simpa using hb
  subst e
  exact ⟨_,st,fun v z=>by
   have z':Data.fields _=Data.cell v:=z
   cases z'⟩
 keep:=fun i h h' st k=>k it (by simp) _ st
 item:=by
  intro X hP hw hK hc i pins s σ H E I hf st hg;subst hP hw hK;obtain ⟨f0,f1,f2,f3,f4,f5⟩:=hf it (by simp);have W:=Walks.range (prog:=X.prog) (w:=X.w) (I.ok.hd hc) it lo c n;refine W.item i s _ _ hg st fun v h' tk hv st' kk=>?_;obtain ⟨t,rfl⟩:=hv;have I1:Inv X pins σ H { s with heap:=h',toks:=tk }:=I.turned (fun b o hb e=>kk b o (by simpa using hb) e) f0 f1 f3 f4 f5;exact ⟨_,rfl,a4N (s:={ s with heap:=h',toks:=tk }) (n:= "range_iterator") st' rfl rfl (by decide) ⟨.int (lo + i * c),H,I1,⟨t,rfl⟩,⟨rfl,rfl⟩,st',fun b hb=>(hf b hb).1⟩⟩
 done:=by
  intro X hP hw hK hc i pins s σ H E I hf st hg;subst hP hw hK;obtain ⟨f0,f1,f2,f3,f4,f5⟩:=hf it (by simp);exact wpAny_pyNext_range_end (I.ok.hd hc) st (by have:n <= i:=hg;omega) fun h' eb=>⟨rfl,I.turned (t':=s.toks) (fun b o hb e=>eb b o hb e) f0 f1 f3 f4 f5⟩
 self:=fun _ _ _ _ _ st h=>wpAny_pyIter_rangeiter st h
section
variable {X:Cx} {tg:Expr}
theorem b1o{pins:List (Addr×Obj)}{σ:St}{H:Hp}{s:Shared}{R:It->Hp->Prop}{E:Value->Shared->Prop}{lo hi c:Int}{t u v:Tok}{tk:Nat}(I:Inv X pins σ H s)(k:G9 lo hi c)
  (q:R (Itq lo c (E7 lo hi c)) H):wpAny (model X.prog X.w) X.A (pyIter (.ref s.heap.objs.size)) (PIE X pins σ tg R) E { s with heap:=s.heap.push { cls:=.type "range",data:=.fields #[.int lo t,.int hi u,.int c v] },toks:=tk }:=by
 refine wpAny_pyIter_range (IsRange.new ..) (a0y k) ?_;have I1:Inv X pins σ H { s with heap:=s.heap.push { cls:=.type "range",data:=.fields #[.int lo t,.int hi u,.int c v] },toks:=tk }:=I.kept fun b o e=>Heap.get?_push_of_some _ e
 refine ⟨(s.heap.push { cls:=.type "range",data:=.fields #[.int lo t,.int hi u,.int c v] }).objs.size,[(s.heap.push { cls:=.type "range",data:=.fields #[.int lo t,.int hi u,.int c v] }).objs.size],_,_,H,rfl,
  I1.kept (t':=tk) fun b o e=>Heap.get?_push_of_some _ e,a5K _ lo c (E7 lo hi c),?_,fun b hb=>?_,q⟩
 ·have e1:lo + ((0:Nat):Int) * c=lo:=by simp
  have e2:((E7 lo hi c:Nat):Int) - ((0:Nat):Int)=Builtin.Range.rangeSize lo hi c:=by rw [a0g k];omega
  show IsRangeIter _ _ (lo + ((0:Nat):Int) * c) (((E7 lo hi c:Nat):Int) - ((0:Nat):Int)) c;rw [e1,e2];exact Heap.get?_push_size _ rfl
 ·have e:b=(s.heap.push { cls:=.type "range",data:=.fields #[.int lo t,.int hi u,.int c v] }).objs.size:=by simpa using hb
  subst e;exact I1.fpOk (Nat.le_refl _) (I1.hok.fresh (Nat.le_refl _))
def b7j(ta:TA):TI:=fun σ H R=>ta σ H fun vs H1=>∃ i j c:Int,vs=[.int i,.int j,.int c]/\G9 i j c/\R (Itq i c (E7 i j c)) H1
theorem a5E{a b c:Expr}{ta:TA}{p pos:Pos}(hg:Gl X "range")(hm:X.mg "range" = none)(ha:PA X [a,b,c] ta)(hs:starEach [a,b,c] X.env=[(false,eval a X.env),(false,eval b X.env),(false,eval c X.env)]:=by rfl)(hs2:starEach [b,c] X.env=[(false,eval b X.env),(false,eval c X.env)]:=by rfl) :
  PI X tg (.Call (.Name "range" p) [a,b,c] [] pos) (b7j ta):=by
 intro pins s σ H R I h;refine Call_ (M1 I hg hm boot_range (PyProof.Rows.callWith_type1 (thn (ha pos pins s σ H _ I h) fun us s1 ⟨vs,H1,I1,r1,q1⟩=>?_) (by rw [hs,hs2]) (by rw [hs2];rfl)));obtain ⟨i,j,c,e,k,q⟩:=q1;subst e
 cases r1 with
 |cons r rr =>
  cases rr with
  |cons r' rr =>
   cases rr with
   |cons r'' rr =>
    cases rr;obtain ⟨t,rfl⟩:=r;obtain ⟨t',rfl⟩:=r';obtain ⟨t'',rfl⟩:=r'';exact call_range_3 (by have:=k.c0;omega) (b1o I1 k q) (.inl (PyProof.noPylong_small (by have:=k.c0;have:=k.c1;omega)))
def a4Q(l:Addr)(i j c:Int):Heap->Prop:=fun h=>∃ t u v,IsRange h l i j c t u v
def b7i(ta:TA):TE:=fun σ H Q=>ta σ H fun vs H1=>∃ i j c:Int,vs=[.int i,.int j,.int c]/\G9 i j c/\∀ l,H1 l=none->Q (.ref l) (upd H1 l (.ext (a4Q l i j c)))
theorem a5H{a b c:Expr}{ta:TA}{p pos:Pos}(hg:Gl X "range")(hm:X.mg "range" = none)(ha:PA X [a,b,c] ta)(hs:starEach [a,b,c] X.env=[(false,eval a X.env),(false,eval b X.env),(false,eval c X.env)]:=by rfl)(hs2:starEach [b,c] X.env=[(false,eval b X.env),(false,eval c X.env)]:=by rfl) :
  PE X (.Call (.Name "range" p) [a,b,c] [] pos) (b7i ta):=by
 intro pins s σ H Q I h;refine Call_ (M1 I hg hm boot_range (PyProof.Rows.callWith_type1 (thn (ha pos pins s σ H _ I h) fun us s1 ⟨vs,H1,I1,r1,q1⟩=>?_) (by rw [hs,hs2]) (by rw [hs2];rfl)));obtain ⟨i,j,c,e,k,q⟩:=q1;subst e
 cases r1 with
 |cons r rr =>
  cases rr with
  |cons r' rr =>
   cases rr with
   |cons r'' rr =>
    cases rr;obtain ⟨t,rfl⟩:=r;obtain ⟨t',rfl⟩:=r';obtain ⟨t'',rfl⟩:=r'';refine call_range_3 (by have:=k.c0;omega) ?_ (.inl (PyProof.noPylong_small (by have:=k.c0;have:=k.c1;omega)));exact ⟨.ref s1.heap.objs.size,_,I1.laid (fun b o e=>Heap.get?_push_of_some _ e) (Nat.le_refl _) (show ObjOk X.prog X.w _ _ _ (.ext (a4Q s1.heap.objs.size i j c)) from ⟨⟨_,_,_,IsRange.new ..⟩,⟨_,Heap.get?_push_size _ rfl⟩,fun h1 h2 ⟨t,u,v,e⟩ k=>⟨t,u,v,k _ e⟩⟩),rfl,q _ (I1.hok.fresh (Nat.le_refl _))⟩
theorem a0T(c:Int):∀ (us:List Value) (a:Int),(∀ (j:Nat) (v:Value),us[j]?=some v->∃ t,v=Value.int (a + (j:Int) * c) t)->Vals ((List.range us.length).map fun k=>V.int (a + (k:Nat) * c)) us
 |[],_,_=>.nil
 |u :: us,a,h=>by
  rw [List.length_cons,List.range_succ_eq_map,List.map_cons,List.map_map];refine .cons ?_ ?_
  ·obtain ⟨t,e⟩:=h 0 u rfl;exact ⟨t,e⟩
  ·have e9:∀ j:Nat,a + ((j + 1:Nat):Int) * c=a + c + (j:Int) * c:=fun j=>by rw [Int.natCast_add,Int.add_mul];omega
   have:=a0T c us (a + c) fun j v e=>by
    obtain ⟨t,q⟩:=h (j + 1) v (by simpa using e);exact ⟨t,by rw [q,e9]⟩
   have e:(List.range us.length).map ((fun k:Nat=>V.int (a + (k:Nat) * c)) ∘ Nat.succ)=(List.range us.length).map fun k:Nat=>V.int (a + c + (k:Nat) * c):=List.map_congr_left fun k _=>by
    show V.int (a + ((k + 1:Nat):Int) * c)=V.int (a + c + (k:Int) * c);rw [e9]
   rw [e];exact this
theorem a0x(hc:X.calm=true):CallR X (.type "list") (fun xs H Q=>∃ p i j c,xs=[.ref p]/\H p=some (.ext (a4Q p i j c))/\G9 i j c/\∀ l,H l=none->Q (.ref l) (upd H l (.lst ((List.range (E7 i j c)).map fun k=>V.int (i + (k:Nat) * c))))):=by
 intro pins s σ H xs us Q I r h;obtain ⟨p,i,j,c,rfl,hp,k,q⟩:=h;obtain ⟨u,rfl,rx⟩:=O8 r;cases rx;obtain ⟨⟨t,u,v,ho⟩,_⟩:=I.hok p _ hp
 have hz:E7 i j c <= 16777216:=by
  obtain ⟨a1,a2,a3,a4,a5,a6⟩:=k;unfold E7;split
  ·have:(j - i - 1) / c <= j - i - 1:=Int.ediv_le_self _ (by omega)
   omega
  ·omega
 refine call_list_range (n:=E7 i j c) (I.ok.hd hc) ho (a0y k) (a0g k) hz fun h' tk acc c' kp e it=>?_
 have r':Vals ((List.range (E7 i j c)).map fun k=>V.int (i + (k:Nat) * c)) acc.toList:=by
  have:=a0T c acc.toList i fun m v e=>by
   obtain ⟨t,z⟩:=it.2 m v (by rw [<- Array.getElem?_toList];exact e);exact ⟨t,z⟩
  rw [Array.length_toList,it.1] at this;exact this
 exact ⟨.ref s.heap.objs.size,_,I.laid (t':=tk) kp (Nat.le_refl _) (show ObjOk X.prog X.w _ h' _ (.lst _) from ⟨by rw [sizeLine_eq,List.length_map,List.length_range];exact hz,acc.toList,c',r',e⟩),rfl,q _ (I.hok.fresh (Nat.le_refl _))⟩
end
end L2
namespace DL
open PySem PySem.Spec L2
def O2(i c:Int)(n:Nat):List D:=(List.range n).map fun k=>D.int (i + (k:Nat) * c)
def a8t(f:DA):DI:=fun δ h Q=>f δ h fun ds h1=>match ds with
 |[.int i,.int j,.int c]=>G9 i j c/\Q ⟨O2 i c (E7 i j c),[]⟩ h1
 |_=>False
def a1g(f:DA):DN:=fun δ h Q=>f δ h fun ds h1=>match ds with
 |[.int i,.int j,.int c]=>G9 i j c/\Q (O2 i c (E7 i j c)) h1
 |_=>False
theorem a3F{K:KP}{α:List Addr}{H:Hp}(i c:Int)(n:Nat):RelDs K α H (O2 i c n) ((List.range n).map fun k=>V.int (i + (k:Nat) * c)):=by
 unfold O2;generalize List.range n=l
 induction l with
 |nil=>exact .nil
 |cons a r ih=>exact .cons (.int _) ih
theorem b0v{K:PySem.W.Frag}{π α:List Addr}{H:Hp}{lo c:Int}{n:Nat}:ItA K π α H (Itq lo c n) ⟨O2 lo c n,[]⟩:=fun π' sub=>by
 refine ⟨fun _ _=>True,⟨fun _ _ _ _ _ _=>trivial,fun _ _ _ _ _ _ _=>trivial,fun α H h i d R st ok hi=>?_,fun α H h R st ok=>?_⟩,trivial⟩
 ·have hi:(O2 lo c n)[i]?=some d:=hi;unfold O2 at hi;rw [List.getElem?_map] at hi
  by_cases hlt:i < n
  ·rw [List.getElem?_range hlt] at hi;cases hi;exact ⟨hlt,fun x H' ⟨e1,e2⟩=>by subst e1 e2;exact ⟨Ext.refl ..,R,.int _⟩⟩
  ·rw [List.getElem?_eq_none (by rw [List.length_range];omega)] at hi;cases hi
 ·show n <= (O2 lo c n).length;unfold O2;rw [List.length_map,List.length_range];exact Nat.le_refl _
section
variable {X:Cx} {tg:Expr} {a b c:Expr} {p p2 pos pos2:Pos} {n:Nat}
theorem b6U{K:KP}{α:List Addr}{H:Hp}{a b c:D}{vs:List V}(h:RelDs K α H [a,b,c] vs):∃ x y z,vs=[x,y,z]/\RelD K α H a x/\RelD K α H b y/\RelD K α H c z:=by
 cases h with
 |cons r1 h =>
  cases h with
  |cons r2 h =>
   cases h with
   |cons r3 h=>cases h;exact ⟨_,_,_,rfl,r1,r2,r3⟩
theorem a5J{fs:DA}(hg:Gl X "range")(hm:X.mg "range" = none)(ha:SA X [a,b,c] n fs)(hs:starEach [a,b,c] X.env=[(false,eval a X.env),(false,eval b X.env),(false,eval c X.env)]:=by rfl)(hs2:starEach [b,c] X.env=[(false,eval b X.env),(false,eval c X.env)]:=by rfl):SI X tg (.Call (.Name "range" p) [a,b,c] [] pos) (a8t fs):=PI.imp (a5E hg hm ha hs hs2) fun σ H Q zz0=>by
 obtain ⟨π,α,δ,h,Q',R,S,f,k⟩:=zz0;refine ⟨π,α,δ,h,_,R,S,f,fun ds h1 α1 H1 vs f1 e1 R1 q1 l1=>?_⟩
 split at f1
 ·obtain ⟨v,v',v'',rfl,q3,q4,q5⟩:=b6U q1;cases q3;cases q4;cases q5;exact ⟨_,_,_,rfl,f1.1,k _ h1 α1 H1 _ f1.2 e1 R1 b0v Src.ok_nil⟩
 ·exact f1.elim
theorem a2r{f:DA}(hc:X.calm=true)(hg:Gl X "list")(hm:X.mg "list" = none)(hg2:Gl X "range")(hm2:X.mg "range" = none)(ha:SA X [a,b,c] n f)(hs:starEach [a,b,c] X.env=[(false,eval a X.env),(false,eval b X.env),(false,eval c X.env)]:=by rfl)(hs2:starEach [b,c] X.env=[(false,eval b X.env),(false,eval c X.env)]:=by rfl)
  (he:starEach [.Call (.Name "range" p2) [a,b,c] [] pos2] X.env=(false,eval (.Call (.Name "range" p2) [a,b,c] [] pos2) X.env) :: starEach [] X.env:=by rfl) (hpl:(backTo pos (starEach [] X.env)).any (·.1)=false:=by rfl) :
  SN X (.Call (.Name "list" p) [.Call (.Name "range" p2) [a,b,c] [] pos2] [] pos) (a1g f):=PE.imp (Q0 (a0x hc) hg hm PyProof.Rows.boot_list (A4 (a5H hg2 hm2 ha hs hs2) N7 he) (by decide) (by decide) he hpl) fun σ H Q zz0=>by
 obtain ⟨π,α,δ,h,Q',R,S,f,k⟩:=zz0;refine ⟨π,α,δ,h,_,R,S,f,fun ds h1 α1 H1 vs f1 e1 R1 q1 l1=>?_⟩
 split at f1
 ·rename_i i j c;obtain ⟨b1,q⟩:=f1;obtain ⟨v,v',v'',rfl,q3,q4,q5⟩:=b6U q1;cases q3;cases q4;cases q5;refine ⟨i,j,c,rfl,b1,fun l hl=>?_⟩;have e2:Ext α1 H1 α1 (upd H1 l (.ext (a4Q l i j c))):=Ext.new hl;refine ⟨l,i,j,c,rfl,m8,b1,fun l2 hl2=>?_⟩;exact LN.last (h:=h) k q (e1.trans e2) (R1.new hl) (a3F i c _) hl2
 ·exact f1.elim
end
end DL
namespace CM
open PySem L2 DL
inductive Mo where
 |go (w:Mv) (k e:Nat) | out (e:Nat)
structure Y7 where
 f:Nat
 p:Nat
 d:Nat
 cost:Nat
 op:List (Nat×Nat)
def b7g(C:i9):Nat->List (Nat×Nat)->Prop
 |_,[]=>True
 |f,x :: r=>∃ G E i b o,C[x.1]?=some G/\G.edges[x.2]?=some E/\E.k = .call f i b o/\b7g C x.1 r
def sOk(C:i9)(s:Y7):Prop:=∃ F,C[s.f]?=some F/\s.p < F.places/\s.d < F.facts/\b7g C s.f s.op
inductive Nx(C:i9):Y7->Mo->Y7->Prop
 |go {s:Y7} {w:Mv} {k e:Nat} {E:Edge}:w ≠ .inn->takes C s.f s.p s.d w (k:Int) (e:Int)=some E->Nx C s (.go w k e) ⟨s.f,E.q,e,s.cost + E.cost,s.op⟩
 |inn {s:Y7} {k e:Nat} {E:Edge} {g:Nat} {i b o:List Nat}:takes C s.f s.p s.d .inn (k:Int) (e:Int)=some E->E.k = .call g i b o->Nx C s (.go .inn k e) ⟨g,0,e,s.cost + E.cost,(s.f,k) :: s.op⟩
 |out {s:Y7} {x:Nat×Nat} {r:List (Nat×Nat)} {e:Nat} {F G:Fn} {E:Edge} {g:Nat} {i b o:List Nat}:s.op=x :: r->C[s.f]?=some F->s.p + 1=F.places->C[x.1]?=some G->G.edges[x.2]?=some E->E.k = .call g i b o->br b s.d (e:Int)=true->Nx C s (.out e) ⟨x.1,E.q,e,s.cost,r⟩
theorem a4f{t:List Nat}{n m d:Nat}{e:Int}(ht:tOk t n m)(hd:d < n)(hb:br t d e=true):e.toNat < m:=by
 unfold br at hb;rw [Bool.and_eq_true] at hb;have hx:=(ht.get hd).2
 rcases Nat.lt_or_ge e.toNat m with z | z
 ·exact z
 ·rw [Nat.testBit_lt_two_pow (Nat.lt_of_lt_of_le hx (Nat.pow_le_pow_right (by decide) z))] at hb;exact absurd hb.2 Bool.false_ne_true
structure Way(C:i9)(fact:Nat)(ms:List Mo)(ss:List Y7):Prop where
 len:ss.length=ms.length + 1
 one:ss[0]?=some ⟨0,0,fact,0,[]⟩
 ok:∀ s ∈ ss,sOk C s
 nx:∀ (i:Nat) (m:Mo) (s s':Y7),ms[i]?=some m->ss[i]?=some s->ss[i + 1]?=some s'->Nx C s m s'
theorem Way.get{C:i9}{fact:Nat}{ms:List Mo}{ss:List Y7}(W:Way C fact ms ss){i:Nat}(h:i <= ms.length):∃ s,ss[i]?=some s/\sOk C s:=by
 have hl:i < ss.length:=by rw [W.len];omega
 exact ⟨_,List.getElem?_eq_getElem hl,W.ok _ (List.getElem_mem hl)⟩
theorem b5z{α:Type}(xs:List α)(x:α):atI (xs ++ [x]) (-1)=some x:=by
 unfold atI ixN;rw [if_neg (by decide),if_pos (by simp;omega)];show (xs ++ [x])[(-1 + ((xs ++ [x]).length:Int)).toNat]?=some x;rw [show (-1 + ((xs ++ [x]).length:Int)).toNat=xs.length by simp;omega]
 simp
end CM
namespace CM
open PySem L2 DL
end CM
namespace CM
open PySem L2 DL
inductive GM where
 |go (w:Mv) (n e:Int) | out (e:Int)
def gmD:GM->D
 |.go w n e=>.tup [.str w.w,.int n,.int e]
 |.out e=>.tup [.str "out",.int e]
section
variable {C:i9} {s s':Y7} {w:Mv} {n e:Int} {F G:Fn} {E E':Edge} {x:Nat×Nat} {r:List (Nat×Nat)}
end
section
variable {C:i9} {s:Y7} {F:Fn} {E:Edge} {n:Nat} {l:List (Mo×Y7)}
section
variable {x:Nat×Nat} {r:List (Nat×Nat)} {G:Fn} {ep eq ec g:Nat} {i b o:List Nat}
end
end
end CM
namespace L2
open PySem PySem.Spec PyProof.Rows
structure Exc(h:Heap)(a:Addr)(cls:Value)(dx:Option Addr)(T:Option Addr)(fl:Value):Prop where
 ob:∃ o vs,h.get? a=some o/\o.cls=cls/\o.dict=dx/\o.data = .fields vs/\vs[1]?=some (T.elim .none .ref)
 tb:∀ t,T=some t->t ≠ a/\∃ o ts,h.get? t=some o/\o.data = .fields ts/\ts[3]?=some fl
structure Chg(fs:List Addr)(a:Addr)(T:Option Addr)(h h':Heap):Prop where
 keep:∀ b o,h.get? b=some o->b ∉ fs->b ≠ a->T ≠ some b->h'.get? b=some o
 slot:∀ b o,h.get? b=some o->b ≠ a->T ≠ some b->∃ sl,h'.get? b=some { o with slots:=sl }
 there:∀ b o,h.get? b=some o->∃ o',h'.get? b=some o'
section
variable {M:Model} {A:Around} {E:Value->Shared->Prop} {s:Shared} {env:Env} {outer:List Env} {L a:Addr} {cls:Value} {dx T:Option Addr} {fl:Value} {base:Heap}
theorem a0k{head:Value}{hadNext:Bool}{oe:Obj}{vs:Array Value}{Q:Unit->Shared->Prop}(hfr:A.frames=some (env :: outer))(hl:s.heap.FunFrames base (env :: outer))(hf:env.frame=some L)
  (he:s.heap.get? a=some oe) (hd:oe.data = .fields vs) (hsz:1 < vs.size)
  (h:∀ h' t,Chg (frs (env :: outer)) a none s.heap h'->s.heap.objs.size <= t->Exc h' a oe.cls oe.dict (some t) (rawInt L)->Q () { s with heap:=h' }) :
  wpAny M A (do let a' <- frameOf env;let pl <- entryPlaceOf L hadNext;let b <- EntryCells.newEntry head a' .none (rawInt L) .none pl;setField (.ref a) 1 b) Q E s:=by
 have hene:a ∉ (env :: outer).filterMap (·.frame):=fun hm=>by
  obtain ⟨_,o,ho,hnf⟩:=hl.mem hm;rw [he] at ho;injection ho with ho;subst ho;exact hnf vs hd
 refine wpAny_bind (wpAny_frameOf_fun hfr hl hf fun h₁ hs₁=>?_);refine wpAny_bind (wpAny_entryPlaceOf fun pl hpl=>?_);unfold EntryCells.newEntry newFields;refine wpAny_bind (wpAny_newObj_type ?_ (hpl.sizeOk5 _ _ _ _ _));have he₁:h₁.get? a=some oe:=(hs₁.2.1 a hene).trans he;have he₂:=Heap.get?_push_of_some (h:=h₁) { cls:=.type "traceback",dict:=none,data:=.fields ([head,.ref L,.none,rawInt L,.none] ++ (if pl.isEmpty then List.replicate 6 Value.none else pl)).toArray } he₁;refine wpAny_setField he₂ hd hsz (h _ h₁.objs.size ⟨?_,?_,?_⟩ (by rw [hs₁.1];exact Nat.le_refl _) ?_)
 ·intro b o hb hnf hba _;rw [Heap.get?_update_other _ _ (Ne.symm hba)];exact Heap.get?_push_of_some _ ((hs₁.2.1 b hnf).trans hb)
 ·intro b o hb hba _;obtain ⟨sl,hs⟩:=hs₁.2.2 b o hb;exact ⟨sl,by rw [Heap.get?_update_other _ _ (Ne.symm hba)];exact Heap.get?_push_of_some _ hs⟩
 ·intro b o hb;obtain ⟨sl,hs⟩:=hs₁.2.2 b o hb
  by_cases hba:b=a
  ·subst hba;exact ⟨_,Heap.get?_update_self _ he₂ (Obj.isFreed_of_fields (Obj.data_mapFields hd _))⟩
  ·exact ⟨_,by rw [Heap.get?_update_other _ _ (Ne.symm hba)];exact Heap.get?_push_of_some _ hs⟩
 ·have hTe:h₁.objs.size ≠ a:=Nat.ne_of_gt (Heap.lt_size he₁);have hd₃:=Obj.data_mapFields hd (·.setIfInBounds 1 (Value.ref h₁.objs.size));refine ⟨⟨_,_,Heap.get?_update_self _ he₂ (Obj.isFreed_of_fields hd₃),Obj.cls_mapFields _ _,?_,hd₃,by simp [hsz]⟩,fun t ht=>?_⟩
  ·obtain ⟨c,d,dt,sl⟩:=oe
   cases hd;rfl
  ·cases ht;refine ⟨hTe,_,_,(Heap.get?_update_other _ _ (Ne.symm hTe)).trans (Heap.get?_push_size h₁ rfl),rfl,?_⟩
   first | (simp;done) | (rcases hpl with rfl | ⟨_,_,_,_,_,_,_,rfl⟩ <;> simp)
theorem a4x{Q:Unit->Shared->Prop}(hfr:A.frames=some (env :: outer))(hl:s.heap.FunFrames base (env :: outer))(hf:env.frame=some L)(x:Exc s.heap a cls dx T fl)(hfl:fl = .none\/fl=rawInt L)
  (h:∀ h' t,Chg (frs (env :: outer)) a T s.heap h'->(T=some t\/s.heap.objs.size <= t)->Exc h' a cls dx (some t) (rawInt L)->Q () { s with heap:=h' }):wpAny M A (noteFrame (.ref a) env) Q E s:=by
 obtain ⟨⟨oe,vs,he,rfl,rfl,hd,h1⟩,tb⟩:=id x;unfold noteFrame;simp only [hf];refine wpAny_bind (wpAny_field he hd h1 ?_)
 cases T with
 |none =>
  rw [if_neg (by simp)];exact a0k hfr hl hf he hd (Array.getElem?_eq_some_iff.mp h1).1 fun h' t c n e=>h h' t c (.inr n) e
 |some t =>
  obtain ⟨hte,oT,ts,hT,hdT,h3⟩:=tb t rfl;show wpAny M A (if (Value.ref t != Value.none)=true then _ else _) Q E s;rw [if_pos (show (Value.ref t != Value.none)=true from by simp)];refine wpAny_bind (wpAny_field hT hdT h3 ?_)
  rcases hfl with rfl | rfl
  ·rw [if_neg (show ¬ ((Value.none == rawInt L)=true) from by simp [rawInt])];refine wpAny_bind (wpAny_setField hT hdT (Array.getElem?_eq_some_iff.mp h3).1 ?_);have other:∀ b,b ≠ t->(s.heap.update t (Obj.mapFields (·.setIfInBounds 3 Value.none))).get? b=s.heap.get? b:=fun b hb=>Heap.get?_update_other _ _ (Ne.symm hb)
   have noRecord:∀ b o,s.heap.get? b=some o->(∀ vs,o.data ≠ .fields vs)->b ≠ t:=fun b o hb hnf q=>by
    rw [q,hT] at hb;injection hb with hb;subst hb;exact hnf ts hdT
   have ht':=Heap.get?_update_self (Obj.mapFields (·.setIfInBounds 3 Value.none)) hT (Obj.isFreed_of_fields (Obj.data_mapFields hdT _))
   refine a0k (hfr:=hfr) (hl:=hl.of_keeps fun b o hb hnf=>⟨o,(other b (noRecord b o hb hnf)).trans hb,rfl⟩) (hf:=hf) (he:=(other a (Ne.symm hte)).trans he) (hd:=hd) (hsz:=(Array.getElem?_eq_some_iff.mp h1).1)
    fun h' t' c n e=>h h' t' ⟨fun b o hb hnf hba hbt=>?_,fun b o hb hba hbt=>?_,fun b o hb=>?_⟩ (.inr ?_) e
   ·exact c.keep b o ((other b fun q=>hbt (by rw [q])).trans hb) hnf hba (by simp)
   ·exact c.slot b o ((other b fun q=>hbt (by rw [q])).trans hb) hba (by simp)
   ·by_cases q:b=t
    ·subst q;exact c.there _ _ ht'
    ·exact c.there b o ((other b q).trans hb)
   ·have n:(s.heap.update t (Obj.mapFields (·.setIfInBounds 3 Value.none))).objs.size <= t':=n;rw [Heap.size_after_update] at n;exact n
  ·rw [if_pos (show (rawInt L == rawInt L)=true from by simp)];exact wpAny_pure (h _ t ⟨fun b o hb _ _ _=>hb,fun b o hb _ _=>⟨o.slots,hb⟩,fun b o hb=>⟨o,hb⟩⟩ (.inl rfl) x)
theorem W9{t:Addr}{fr:Option Addr}{Q:Unit->Shared->Prop}(x:Exc s.heap a cls dx (some t) fl)
  (h:∀ h',(∀ b o,h'=h'->s.heap.get? b=some o->b ≠ t->h'.get? b=some o)->(∀ b o,s.heap.get? b=some o->∃ o',h'.get? b=some o')->Exc h' a cls dx (some t) (fr.elim .none fun f=>rawInt f)->Q () { s with heap:=h' }) :
  wpAny M A (setFlight (.ref a) fr) Q E s:=by
 obtain ⟨⟨oe,vs,he,rfl,rfl,hd,h1⟩,tb⟩:=x;obtain ⟨hte,oT,ts,hT,hdT,h3⟩:=tb t rfl;have hsz:=(Array.getElem?_eq_some_iff.mp h3).1;unfold setFlight;refine wpAny_bind (wpAny_field he hd h1 ?_);show wpAny M A (if (Value.ref t != Value.none)=true then _ else _) Q E s;rw [if_pos (show (Value.ref t != Value.none)=true from by simp)];have ht':=Heap.get?_update_self (Obj.mapFields (·.setIfInBounds 3 (fr.elim .none fun f=>rawInt f))) hT (Obj.isFreed_of_fields (Obj.data_mapFields hdT _));have other:∀ b,b ≠ t->(s.heap.update t (Obj.mapFields (·.setIfInBounds 3 (fr.elim .none fun f=>rawInt f)))).get? b=s.heap.get? b:=fun b hb=>Heap.get?_update_other _ _ (Ne.symm hb);refine wpAny_setField hT hdT hsz (h _ (fun b o _ hb hbt=>(other b hbt).trans hb) (fun b o hb=>?_) ⟨⟨oe,vs,(other a (Ne.symm hte)).trans he,rfl,rfl,hd,h1⟩,fun t' ht=>?_⟩)
 ·by_cases q:b=t
  ·subst q;exact ⟨_,ht'⟩
  ·exact ⟨o,(other b q).trans hb⟩
 ·cases ht;exact ⟨hte,_,_,ht',Obj.data_mapFields hdT _,by simp [hsz]⟩
end
end L2
namespace L2
open PySem PySem.Spec PyProof.Rows
def Away(X:Cx)(pins:List (Addr×Obj))(b:Addr):Prop :=
 X.s₀.heap.objs.size <= b/\b ≠ X.env.locals/\(∀ x c,X.env.cells.lookup x=some c->c ≠ b)/\∀ p ∈ X.pn ++ pins,p.1 ≠ b
section
variable {X:Cx} {pins:List (Addr×Obj)} {σ:St} {H H':Hp} {s s':Shared} {h':Heap} {a:Addr} {cls:Value} {dx T:Option Addr} {fl:Value}
theorem Inv.away(I:Inv X pins σ H s){b:Addr}(hb:s.heap.objs.size <= b):Away X pins b:=by
 refine ⟨Nat.le_trans I.sz hb,fun z=>?_,fun x c e z=>?_,fun p hp z=>?_⟩
 ·obtain ⟨m,⟨o,es,ep,ho,r⟩,_⟩:=I.loc
  have:=Heap.lt_size ho
  rw [<- z] at this;exact absurd (Nat.lt_of_lt_of_le this hb) (Nat.lt_irrefl _)
 ·obtain ⟨v,o,ho,_⟩:=I.cell x c e
  have:=Heap.lt_size ho
  rw [z] at this;exact absurd (Nat.lt_of_lt_of_le this hb) (Nat.lt_irrefl _)
 ·obtain ⟨e,_⟩:=I.pin p hp
  have:=Heap.lt_size e
  rw [z] at this;exact absurd (Nat.lt_of_lt_of_le this hb) (Nat.lt_irrefl _)
theorem Inv.unpin(I:Inv X pins σ H s):Inv X [] σ H s:=I.pins_of fun p hp=>nomatch hp
theorem Away.unpin{b:Addr}(w:Away X pins b):Away X [] b:=⟨w.1,w.2.1,w.2.2.1,fun p hp=>w.2.2.2 p (by simp at hp;exact List.mem_append_left _ hp)⟩
theorem Inv.chg(I:Inv X pins σ H s)(c:Chg (frs X.stack) a T s.heap h')(ha:H a=none)(hT:∀ t,T=some t->H t=none)(wa:Away X pins a)(wT:∀ t,T=some t->Away X pins t) :
  Inv X pins σ H { s with heap:=h' }:=by
 have nt:∀ b u,H b=some u->b ∉ frs X.stack/\b ≠ a/\T ≠ some b:=fun b u e=>⟨fun z=>(by rw [I.stkFree b z] at e;cases e),fun z=>(by rw [z,ha] at e;cases e),fun z=>(by rw [hT b z] at e;cases e)⟩
 have hm:∀ b,b ∉ (a :: T.toList)->b ≠ a/\T ≠ some b:=fun b hb=>⟨fun z=>hb (by simp [z]),fun z=>hb (by simp [z])⟩
 refine I.call' (s':={ s with heap:=h' }) (ch:=a :: T.toList) rfl ⟨fun b o e n hf hc=>c.keep b o e hf (hm b hc).1 (hm b hc).2,fun b o e n hf hc=>c.slot b o e (hm b hc).1 (hm b hc).2,fun b o e n hc=>n,fun b o e hc=>c.there b o e,fun _ _ e=>e,fun _ _ _ e=>e,fun b ps e=>⟨#[],by rw [e];simp⟩⟩ (fun b u e=>?_) I.bare fun b hb=>?_
 ·refine (I.hok b u e).stay (fun c' v hc q=>?_) (fun _ q=>q) fun _ _ q=>q
  have:∃ u',H c'=some u':=by
   rcases hc with z | z
   ·rw [z];exact ⟨u,e⟩
   ·exact ⟨_,z⟩
  obtain ⟨u',e'⟩:=this;obtain ⟨n1,n2,n3⟩:=nt c' u' e';exact c.keep c' v q n1 n2 n3
 ·have w:Away X pins b:=by
   rcases List.mem_cons.mp hb with z | z
   ·rw [z];exact wa
   ·exact wT b (by simpa using z)
  exact ⟨.inr w.1,w.2⟩
def XF(X:Cx)(E:XK)(e:Value)(s':Shared):Prop:=∃ a cls dx T fl σ H,e = .ref a/\Inv X [] σ H s'/\Exc s'.heap a cls dx T fl/\Away X [] a/\H a=none/\(∀ t,T=some t->Away X [] t/\H t=none) /\
 (fl = .none\/fl=rawInt X.env.locals)/\E cls dx H
def CXE(P:Program)(w:World):CXT:=fun outer H s E e s'=>∃ a cls dx t H',e = .ref a/\s'.os=s.os/\AllBare s'.gens/\Un (frs outer) [] H H' s.heap s'.heap/\HOk P w H' s'.heap /\
 Exc s'.heap a cls dx (some t) .none/\s.heap.objs.size <= a/\H' a=none/\s.heap.objs.size <= t/\H' t=none/\E cls dx H'
theorem S6{h h':Heap}{fs:List Addr}{t:Addr}(k:∀ b o,h.get? b=some o->b ≠ t->h'.get? b=some o)(th:∀ b o,h.get? b=some o->∃ o',h'.get? b=some o'):Chg fs a (some t) h h' :=
 ⟨fun b o e _ _ n=>k b o e fun z=>n (by rw [z]),fun b o e _ n=>⟨o.slots,k b o e fun z=>n (by rw [z])⟩,th⟩
theorem XF.noted{E:XK}{e:Value}{M:Model}{E2:Value->Shared->Prop}{fr:Option Addr}{Q:Unit->Shared->Prop}(hst:X.stack=X.env :: X.outer/\X.env.frame=some X.env.locals)(x:XF X E e s)
  (k:∀ h' a cls dx t σ H,e = .ref a->Inv X [] σ H { s with heap:=h' }->Exc h' a cls dx (some t) (fr.elim .none fun f=>rawInt f)->Away X [] a->H a=none->Away X [] t->H t=none->E cls dx H->Q () { s with heap:=h' }) :
  wpAny M X.A (noteFrame e X.env) (fun _ s1=>wpAny M X.A (setFlight e fr) Q E2 s1) E2 s:=by
 obtain ⟨a,cls,dx,T,fl,σ,H,rfl,I,ex,wa,ha,wT,hfl,q⟩:=x;refine a4x (base:=X.base) (outer:=X.outer) (by rw [I.ok.frames,hst.1]) (by have:=I.stack;rw [hst.1] at this;exact this) hst.2 ex hfl fun h1 t c ht e1=>?_;rw [<- hst.1] at c;have I1:=I.chg c ha (fun t h=>(wT t h).2) wa (fun t h=>(wT t h).1)
 have wt:Away X [] t/\H t=none:=by
  rcases ht with z | z
  ·exact wT t z
  ·exact ⟨I.away z,I.hok.fresh z⟩
 refine W9 (s:={ s with heap:=h1 }) e1 fun h2 k1 k2 e2=>?_;have c2:Chg (frs X.stack) a (some t) h1 h2:=S6 (fun b o e n=>k1 b o rfl e n) k2;have I2:=I1.chg (a:=a) (T:=some t) c2 ha (fun t' h=>by cases h;exact wt.2) wa (fun t' h=>by cases h;exact wt.1);exact k h2 a cls dx t σ H rfl I2 e2 wa ha wt.1 wt.2 q
theorem XF.leave{E:XK}{e:Value}{M:Model}{E2:Value->Shared->Prop}(hst:X.stack=X.env :: X.outer/\X.env.frame=some X.env.locals)(hex:X.ex=[])(x:XF X E e s) :
  wpAny M X.A (leaving X.env e) (fun _ s'=>CXE X.prog X.w X.outer X.H₀ X.s₀ E e s') E2 s:=by
 unfold leaving;refine wpAny_bind (XF.noted (fr:=none) hst x fun h' a cls dx t σ H he I ex wa ha wt ht q=>?_);exact ⟨a,cls,dx,t,H,he,I.os,I.bare,by have:=I.base;rw [hex] at this;exact this,I.hok,ex,wa.1,ha,wt.1,ht,q⟩
abbrev Cx.wishX(X:Cx)(E:XK):Cx:={ X with xe:=XF X E,ex9:=E }
theorem Cx.Ok.wishX{X:Cx}(ok:X.Ok)(E:XK):(X.wishX E).Ok :=
 ⟨ok.mod,ok.kind,ok.glob,ok.blt,ok.above,ok.inj,ok.has,ok.cab,ok.hd,ok.frames,ok.stk,ok.exf,ok.bs,ok.bsz,ok.noex,ok.exfs,ok.funs,ok.frf⟩
theorem Cx.Ok.unwishX{X:Cx}{E:XK}(ok:(X.wishX E).Ok):X.Ok :=
 ⟨ok.mod,ok.kind,ok.glob,ok.blt,ok.above,ok.inj,ok.has,ok.cab,ok.hd,ok.frames,ok.stk,ok.exf,ok.bs,ok.bsz,ok.noex,ok.exfs,ok.funs,ok.frf⟩
theorem Inv.wishX(I:Inv X pins σ H s)(E:XK):Inv (X.wishX E) pins σ H s:=⟨I.ok.wishX E,I.os,I.bare,I.base,I.loc,I.cell,I.free,I.freeC,I.pin,I.hok,I.len⟩
theorem Inv.unwishX{E:XK}(I:Inv (X.wishX E) pins σ H s):Inv X pins σ H s:=⟨I.ok.unwishX,I.os,I.bare,I.base,I.loc,I.cell,I.free,I.freeC,I.pin,I.hok,I.len⟩
theorem SP.unwishX{E:XK}{D:M9}{f:Flow}{s':Shared}(h:SP (X.wishX E) pins D f s'):SP X pins D f s':=by
 cases f with
 |next=>obtain ⟨σ',H',I,q⟩:=h;exact ⟨σ',H',I.unwishX,q⟩
 |brk=>obtain ⟨σ',H',I,q⟩:=h;exact ⟨σ',H',I.unwishX,q⟩
 |cont=>obtain ⟨σ',H',I,q⟩:=h;exact ⟨σ',H',I.unwishX,q⟩
 |ret u=>obtain ⟨v,σ',H',I,r,q⟩:=h;exact ⟨v,σ',H',I.unwishX,r,q⟩
theorem PSs.wishX{st:List Stmt}{t:TS}{E:XK}(h:PSs (X.wishX E) st t)(k:∀ e s,XF X E e s->X.xe e s):PSs X st t:=fun pins s σ H D I hw =>
 wpAny_mono (h pins s σ H D (I.wishX _) hw) (fun _ _ q=>q.unwishX) k
theorem a7J{X:Cx}:a1T (CXE X.prog X.w) X E0:=fun _ _ _ _ _ _ _ z=>by
 obtain ⟨_,_,_,_,_,_,_,_,_,_,_,_,_,_,_,q⟩:=z;exact q.elim
end
section
variable {P:Program} {w:World} {K:PySem.W.Frag} {mg:Str->Option Value} {base:Heap}
theorem Fun.okX{x qual:Str}{st:Stmt}{f:Addr}{fd:FuncData}{N ps:List Str}{k:Nat}{sp:Sp}(F:Fun K x qual st f fd)(S:j6 N ps (d9 st))(len:∀ vs H Q E,sp vs H Q E->vs.length=ps.length)
  (hbody:∀ (cdv:Value) (A:Around) (outer:List Env) (s:Shared) (H:Hp) (vs:List V) (Q:VK) (E:XK),Room k (A.deeper (envOfC qual (d9 st) s.heap.objs.size f cdv))->sp vs H Q E ->
   ∃ t,PSs ((Z2 (CXE P w) P w K mg base N qual (d9 st) f cdv A outer s H E).wishX E) (A5 st) t/\t { nx:=fun _ H'=>Q .non H',rt:=Q } (start N vs) H) :
  u7 P w K mg base (CXE P w) (k + 1) f fd ps sp:=by
 obtain ⟨oc,od,dV,kV,doc,pm,an,cdv,ct,osl,rfl,lk,hcd⟩:=F.ex;refine b2X lk hcd S len fun A outer s H vs Q E hr hsp=>?_;obtain ⟨t,h,q⟩:=hbody cdv A outer s H vs Q E hr hsp;exact ⟨t,h.wishX fun e s' x=>XF.leave (X:=Z2 (CXE P w) P w K mg base N qual (d9 st) f cdv A outer s H E) ⟨rfl,rfl⟩ rfl x,q⟩
end
end L2
namespace L2
open PySem PySem.Spec PyProof.Rows
open Sem (wp)
section
variable {M:Model} {A:Around} {E:Value->Shared->Prop} {env:Env}
variable {nm q:Str} {C N:Addr} {bs bm:List Value} {hdct:Bool} {sn:List Str} {sub:List Value} {ab:Bool} {col:Option Bool} {dd:Option Addr} {k0 k1 k2 k3 k5:Option Value} {newId:String}
theorem a5x{s:Shared}{x:Sem Value}{Q:Flow->Shared->Prop}(hbase:bm.contains (.type "BaseException")=true)(hh:A.handled=none)
  (h:wpAny M A x (fun v s₁=>∃ e dx a0 sl,v = .ref e/\s₁.heap.get? C=some (excClassObj nm q C N bs bm hdct sn sub ab col dd k0 k1 k2 k3 k5 newId) /\
   s₁.heap.get? e=some { cls:=.ref C,dict:=dx,data:=.fields #[a0,.none,.none,.none,.bool false,.none],slots:=sl }/\E (.ref e) s₁) E s) :
  wpAny M A (raiseStmt env (some x) none) Q E s:=by
 have hcB:(Value.ref C :: bm).contains (.type "BaseException")=true:=by rw [List.contains_cons,hbase,Bool.or_true]
 unfold raiseStmt;refine wpAny_bind (wpAny_mono h (fun v s₁ h₁=>?_) fun _ _ x=>x);obtain ⟨e,dx,a0,sl,rfl,hC,he,hE⟩:=h₁;obtain ⟨hp,g,d,tk,os⟩:=s₁
 repeat (first | with_reducible refine wpAny_loadPart_at he ?_ | with_reducible refine wpAny_loadPart_at hC ?_ | (with_reducible refine wpAny_isSubtype_exc hC ?_;rw [hcB]) | wp_step)
 exact wpAny_raiseNew_none hh hE
end
section
variable {prog:Program} {w:World} {A:Around} {E:Value->Shared->Prop} {h:Heap} {g:Array GenState} {d:Drawn} {t:Nat} {os:OsState}
variable {nm q:Str} {C N:Addr} {bs bm bmB:List Value} {hdct:Bool} {sn:List Str} {sub:List Value} {ab:Bool} {col:Option Bool} {dd:Option Addr} {k0 k1 k2 k3 k5:Option Value} {B Bn newId nid initId inN:String} {bmN:List Value}
theorem Y5(Fn:ExcBaseFacts Bn newId inN bmN)(hBn:bmB.contains (.type Bn)=true)(F:ExcBaseFacts B nid initId bmB)(T:OwnTail h bmB bm){mN:Str->Option Value}{rest:List Value}{fI:Addr}{oI:Obj}{Q:Fin->Shared->Prop}
  (hC:h.get? C=some (excClassObj nm q C N bs bm hdct sn sub ab col dd k0 k1 k2 k3 k5 newId)) (hn:h.Ns N mN) (hi:mN "__init__" = some (.ref fI))
  (hfI:h.get? fI=some oI) (hfc:oI.cls = .type "function")
  (hq:∀ h' e,Heap.MadeExcOf h h' e (.ref C) rest->h.objs.size <= e ->
   wpAny (model prog w) A (call (.ref fI) (.ref e :: rest)) (fun r s'=>r = .none/\Q (.done (.ret (.ref e))) s') E ⟨h',g,d,t,os⟩) (hrest:rest.length <= sizeLine:=by size_fits) :
  wpAny (model prog w) A (Builtin.«type.__call__» ⟨.ref C :: rest,[]⟩) Q E ⟨h,g,d,t,os⟩:=by
 repeat (first | with_reducible refine wpAny_loadPart_at hC ?_ | with_reducible refine wpAny_madeBy_exc hC ?_ | wp_step)
 refine codeAny_call_builtin_code (Code.quiet_builtin _ Fn.quiet) (wpAny_check_new_subU Fn hBn T hC ?_);refine codeAny_exc_new_subU Fn hBn F T hC ?_ hrest;show wpAny _ _ _ _ _ _
 have hC₁:=Heap.get?_push_of_some { cls:=.ref C,data:=.fields #[.ref h.objs.size,.none,.none,.none,.bool false,.none] }
  (Heap.get?_push_of_some { cls:=.type "tuple",data:=.seq rest.toArray } hC)
 have hfI₁:=Heap.get?_push_of_some { cls:=.ref C,data:=.fields #[.ref h.objs.size,.none,.none,.none,.bool false,.none] }
  (Heap.get?_push_of_some { cls:=.type "tuple",data:=.seq rest.toArray } hfI)
 have hn₁:((h.push { cls:=.type "tuple",data:=.seq rest.toArray }).push { cls:=.ref C,data:=.fields #[.ref h.objs.size,.none,.none,.none,.bool false,.none] }).Ns N mN :=
  let ⟨o,es,ep,e,r⟩:=hn;⟨o,es,ep,Heap.get?_push_of_some _ (Heap.get?_push_of_some _ e),r⟩
 have hget:((h.push { cls:=.type "tuple",data:=.seq rest.toArray }).push
   { cls:=.ref C,data:=.fields #[.ref h.objs.size,.none,.none,.none,.bool false,.none] }).get? (h.objs.size + 1)=some
   { cls:=.ref C,data:=.fields #[.ref h.objs.size,.none,.none,.none,.bool false,.none] }:=by heap_get
 have hcC:(Value.ref C :: bm).contains (.ref C)=true:=by simp
 have T₁:=T.keeps (h':=(h.push { cls:=.type "tuple",data:=.seq rest.toArray }).push { cls:=.ref C,data:=.fields #[.ref h.objs.size,.none,.none,.none,.bool false,.none] })
  fun b o e=>Heap.get?_push_of_some _ (Heap.get?_push_of_some _ e)
 unfold isInstance
 repeat (first | with_reducible refine wpAny_loadPart_at hget ?_ | (with_reducible refine wpAny_isSubtype_exc hC₁ ?_;rw [hcC]) | wp_step)
 show wpAny _ _ (typeLookup (.ref C) _) _ _ _;refine wpAny_typeLookup_tail hC₁ hn₁ T₁ F.mroIs F.init.lookup ?_;rw [hi];refine wpAny_holding (wpAny_bind ?_);unfold bindSpecial;refine wpAny_bind (wpAny_typeOf (T:= "function") ⟨_,hfI₁,hfc⟩ ?_);rw [if_pos (by decide)];refine wpAny_pure (wpAny_bind (wpAny_mono (hq _ (h.objs.size + 1) ⟨fun b o hb=>Heap.get?_push_of_some _ (Heap.get?_push_of_some _ hb),Heap.get?_none_of_le (Nat.le_succ _),h.objs.size,hget,Heap.get?_none_of_le (Nat.le_refl _),?_⟩ (Nat.le_succ _)) (fun r s' hr=>?_) fun _ _ x=>x))
 ·exact Heap.get?_push_of_some _ (Heap.get?_push_at rfl rfl)
 ·obtain ⟨rfl,hQ⟩:=hr
  wp_walk
  exact hQ
theorem a3U(Fn:ExcBaseFacts Bn newId inN bmN)(hBn:bmB.contains (.type Bn)=true)(F:ExcBaseFacts B nid initId bmB)(T:OwnTail h bmB bm){mN:Str->Option Value}{rest:List Value}{fI:Addr}{oI:Obj}{Q:Value->Shared->Prop}
  (hC:h.get? C=some (excClassObj nm q C N bs bm hdct sn sub ab col dd k0 k1 k2 k3 k5 newId)) (hn:h.Ns N mN) (hi:mN "__init__" = some (.ref fI))
  (hfI:h.get? fI=some oI) (hfc:oI.cls = .type "function")
  (hq:∀ h' e,Heap.MadeExcOf h h' e (.ref C) rest->h.objs.size <= e ->
   wpAny (model prog w) (A.under (.builtin "type.__call__" ⟨.ref C :: rest,[]⟩)) (call (.ref fI) (.ref e :: rest)) (fun r s'=>r = .none/\Q (.ref e) s') E ⟨h',g,d,t,os⟩) (hrest:rest.length <= sizeLine:=by size_fits) :
  wpAny (model prog w) A (call (.ref C) rest) Q E ⟨h,g,d,t,os⟩:=by
 have f1:=tc_lookup;have f2:=tc_bind (.ref C);have hT:(⟨h,g,d,t,os⟩:Shared).TypeIs (.ref C) "type":=⟨_,hC,rfl⟩
 refine wpAny_call (codeAny_of_tree ?_);show wpAny _ _ (callAny (.ref C) _) _ _ _
 repeat (any_goals (first | assumption | with_reducible refine wpAny_loadPart_at hC ?_ | wp_step))
 refine ⟨rfl,?_⟩;refine codeAny_call_builtin_at (Code.quiet_builtin _ (by decide +kernel)) entry_typeCall (wpAny_check_type_call_sub hC (Y5 (hrest:=hrest) Fn hBn F T hC hn hi hfI hfc fun h' e hm he=>?_));exact hq h' e hm he
end
section
variable {prog:Program} {w:World} {A:Around} {E:Value->Shared->Prop} {s:Shared} {env:Env}
variable {nm q:Str} {C N:Addr} {bs bm bmB:List Value} {hdct:Bool} {sn:List Str} {sub:List Value} {ab:Bool} {col:Option Bool} {dd:Option Addr} {k0 k1 k2 k3 k5:Option Value} {B Bn newId nid initId inN:String} {bmN:List Value}
theorem a0i{x:Str}{np cpos pos:Pos}{args:List Expr}{Q:Flow->Shared->Prop}
  (hbase:bm.contains (.type "BaseException")=true) (hh:A.handled=none) (hplain:(backTo cpos (starEach args env)).any (·.1)=false)
  (h:wpAny (model prog w) A (eval (.Name x np) env) (fun f s₁=>f = .ref C/\wpAny (model prog w) A (evalArgs (.ref C) true (backTo cpos (starEach args env)) [])
   (fun a s₂=>a.kw=[]/\s₂.heap.get? C=some (excClassObj nm q C N bs bm hdct sn sub ab col dd k0 k1 k2 k3 k5 newId) /\
    wpAny (model prog w) A (call (.ref C) a.pos) (fun v s₃=>∃ e dx a0 sl,v = .ref e/\s₃.heap.get? C=some (excClassObj nm q C N bs bm hdct sn sub ab col dd k0 k1 k2 k3 k5 newId) /\
     s₃.heap.get? e=some { cls:=.ref C,dict:=dx,data:=.fields #[a0,.none,.none,.none,.bool false,.none],slots:=sl }/\E (.ref e) s₃) E s₂) E s₁) E s) :
  wpAny (model prog w) A (exec (.Raise (some (.Call (.Name x np) args [] cpos)) none pos) env) Q E s:=by
 rw [arm_exec_Raise];refine wpAny_bind (wpAny_standAt ?_);refine a5x (C:=C) (nm:=nm) (q:=q) (N:=N) (bs:=bs) (bm:=bm) (hdct:=hdct) (sn:=sn) (sub:=sub) (ab:=ab) (col:=col) (dd:=dd) (k0:=k0) (k1:=k1) (k2:=k2) (k3:=k3) (k5:=k5) (newId:=newId) hbase hh ?_;refine wpAny_bind (wpAny_mono (wpAny_Call_ofName (wpAny_mono h (fun f s₁ h₁=>?_) fun _ _ x=>x)) (fun v s₃ h₃=>wpAny_bind (wpAny_standAt (wpAny_pure h₃))) fun _ _ x=>x);obtain ⟨rfl,h₁⟩:=h₁;unfold callWith;refine wpAny_bind (wpAny_holding (wpAny_mono h₁ (fun a s₂ h₂=>wpAny_bind (wpAny_standAt ?_)) fun _ _ x=>x));obtain ⟨apos,akw⟩:=a;obtain ⟨hkw,hC,h₂⟩:=h₂
 obtain rfl:akw=[]:=hkw
 obtain ⟨hp,g,d,tk,os⟩:=s₂;simp only [hplain];refine wpAny_bind (wpAny_keeperOf_exc hC ?_);exact wpAny_bind (wpAny_mono h₂ (fun v s₃ h₃=>wpAny_bind (wpAny_holding (wpAny_point (wpAny_pure h₃)))) fun _ _ z=>z)
end
end L2
namespace L2
open PySem PySem.Spec PyProof.Rows
open Sem (wp)
section
variable {prog:Program} {w:World} {A:Around} {E:Value->Shared->Prop} {h:Heap} {g:Array GenState} {d:Drawn} {tk:Nat} {os:OsState}
variable {nm q:Str} {C N:Addr} {bs bm bmB:List Value} {hdct:Bool} {sn:List Str} {sub:List Value} {ab:Bool} {col:Option Bool} {dd:Option Addr} {k0 k1 k2 k3 k5:Option Value} {B newId nid initId:String}
theorem a5N(F:ExcBaseFacts B nid initId bmB)(T:OwnTail h bmB bm){e:Addr}{dx:Option Addr}{t0:Addr}{sl:Array (Option Value)}{rest:List Value}{Q:Value->Shared->Prop}
  (hC:h.get? C=some (excClassObj nm q C N bs bm hdct sn sub ab col dd k0 k1 k2 k3 k5 newId)) (he:h.get? e=some { cls:=.ref C,dict:=dx,data:=.fields #[.ref t0,.none,.none,.none,.bool false,.none],slots:=sl })
  (hq:∀ h' t1,(∀ b o,b ≠ e->h.get? b=some o->h'.get? b=some o)->h'.get? e=some { cls:=.ref C,dict:=dx,data:=.fields #[.ref t1,.none,.none,.none,.bool false,.none],slots:=sl }->Q .none ⟨h',g,d,tk,os⟩) (hrest:rest.length <= sizeLine:=by size_fits) :
  wpAny (model prog w) A (call (.builtin initId) (.ref e :: rest)) Q E ⟨h,g,d,tk,os⟩:=by
 refine wpAny_call (codeAny_call_builtin F.init.plain F.initEntry (wpAny_check_init_subU F T hC he rfl ?_))
 wp_walk
 refine hq _ h.objs.size (fun b o hb ho=>?_) ?_
 ·rw [Heap.get?_update_other _ _ (Ne.symm hb)];exact Heap.get?_push_of_some _ ho
 ·rw [Heap.get?_update_self _ (Heap.get?_push_of_some _ he) rfl];rfl
end
section
variable {prog:Program} {w:World} {A:Around} {E:Value->Shared->Prop} {h:Heap} {g:Array GenState} {d:Drawn} {t:Nat} {os:OsState} {K:PySem.W.Frag}
variable {nm q:Str} {C N x:Addr} {bs bm:List Value} {sn:List Str} {sub:List Value} {ab:Bool} {col:Option Bool} {dd:Option Addr} {k0 k1 k2 k3 k5:Option Value} {newId:String}
 {mA:Str->Option Value} {name:Str} {v:Value}
abbrev bmV:List Value:=[.type "ValueError",.type "Exception",.type "BaseException",.type "object"]
theorem a2Y{self:Value}{l:List Value}(T:OwnTail h bmV l):refuseLoop self "__setattr__" l=pure ():=by
 induction T with
 |base=>exact PySem.F.store_ValueError.passes self
 |own _ _ _ _ ih=>rw [refuseLoop_ref];exact ih
theorem a6A{M:Model}{o:Obj}{nameV:Value}{Q:Unit->Shared->Prop}
  (hC:h.get? C=some (excClassObj nm q C N bs bm true sn sub ab col dd k0 k1 k2 k3 k5 newId)) (T:OwnTail h bmV bm) (hx:h.get? x=some o) (hc:o.cls = .ref C) (hq:Q () ⟨h,g,d,t,os⟩) :
  wpAny M A (checkBuiltinCall "object.__setattr__" ⟨[.ref x,nameV,v],[]⟩) Q E ⟨h,g,d,t,os⟩:=by
 have SF:=PySem.F.store_ValueError;have hcB:(Value.ref C :: bm).contains (.type "object")=true:=by rw [List.contains_cons,T.hasType SF.hasOwner,Bool.or_true]
 have ha:=SF.args (.ref x) nameV v;simp only [checkBuiltinCall,SF.kind,SF.split];refine wpAny_bind ?_
 ·unfold isInstance
  repeat (first | (with_reducible refine wpAny_loadPart_at hx ?_;rw [hc]) | (with_reducible refine wpAny_isSubtype_exc hC ?_;rw [hcB]) | wp_step)
  exact hq
theorem a7S{tk:Tok}{Q:Fin->Shared->Prop}{ns:List Str}(X:K.In h)
  (hC:h.get? C=some (excClassObj nm q C N bs bm true sn sub ab col dd k0 k1 k2 k3 k5 newId)) (T:OwnTail h bmV bm) (hna:PySem.W.findIn K (.ref C) name=some none)
  (I:h.Inst x C mA)
  (hq:∀ h' tk',h'.Inst x C (fun y=>if y=name then some v else mA y) ->
   (∀ b o,b ≠ x->(∀ o₀ dx,h.get? x=some o₀->o₀.dict=some dx->b ≠ dx)->h.get? b=some o->h'.get? b=some o) ->
   (∀ o₀,h.get? x=some o₀->∃ o₁ dx,h'.get? x=some o₁/\o₁.cls=o₀.cls/\o₁.data=o₀.data/\o₁.slots=o₀.slots/\o₁.dict=some dx/\(o₀.dict=none->h.objs.size <= dx)/\∀ dx',o₀.dict=some dx'->dx=dx')->Q (.done (.ret .none)) ⟨h',g,d,tk',os⟩) (hw:PySem.Within mA ns) (hsz:ns.length < sizeLine) :
  wpAny (model prog w) A (Builtin.«object.__setattr__» ⟨[.ref x,.str name tk,v],[]⟩) Q E ⟨h,g,d,t,os⟩:=by
 obtain ⟨o,hx,hc,hnc,hd⟩:=I;have hpass:=a2Y (self:=.ref x) T;have L2:PySem.W.Looks (model prog w) h (typeLookup (.ref C) name) none:=PySem.W.looks_findIn X hna;unfold Builtin.«object.__setattr__»
 repeat (first | rw [refuse_eq] | (rw [refuseLoop_ref,hpass]) | (with_reducible refine wpAny_loadPart_at hx ?_;rw [hc]) | with_reducible refine wpAny_mroOf_exc hC ?_ | (with_reducible refine L2.at ?_) | wp_step)
 rcases hd with ⟨hdn,hmA⟩ | ⟨dx,hdx,hne,hns⟩
 ·
  rw [hdn,if_neg (by simp [typeHasDict])];split
  ·rename_i hcd;cases hcd
  split
  ·rename_i c hcd;exact absurd hcd (hnc c)
  ·have hx₁:(h.push { cls:=.type "dict",data:=.dict #[] }).get? x=some o:=Heap.get?_push_of_some _ hx;have hxs:x ≠ h.objs.size:=Nat.ne_of_lt (Heap.lt_size hx);refine wpAny_bind (wpAny_alloc' ?_);refine wpAny_bind (wpAny_update' hx₁ ?_);refine wpAny_pure ?_
   have hgd:((h.push { cls:=.type "dict",data:=.dict #[] }).update x fun o=>{ cls:=o.cls,dict:=some h.objs.size,data:=o.data,slots:=o.slots }).get? h.objs.size
     = some { cls:=.type "dict",data:=.dict #[] } :=
    (Heap.get?_update_ne _ _ _ _ hxs.symm).trans (Heap.get?_push_at rfl rfl)
   have hnd:((h.push { cls:=.type "dict",data:=.dict #[] }).update x fun o=>{ cls:=o.cls,dict:=some h.objs.size,data:=o.data,slots:=o.slots }).Ns h.objs.size (fun _=>none) :=
    ⟨_,#[],_,hgd,rfl,fun e he=>absurd he (by simp),fun _=>rfl⟩
   show wpAny _ _ (Builtin.ObjectAttr.storeInDict h.objs.size (.str name tk) name v) _ _ _;unfold Builtin.ObjectAttr.storeInDict Builtin.ObjectAttr.newKeyGuard;refine wpAny_bind (wpAny_pure (wpAny_bind (wpAny_nsSet1 (Heap.Ns1.of_empty hnd) fun h' hn' hs=>?_)));obtain ⟨oD,esD,epD,hoD,hdD,hcD⟩:=hn'.count (Within.cons name v Within.nil);refine wpAny_bind (wpAny_lookBehind hoD (by rw [hdD];exact pastItsLine_dict (Nat.le_trans hcD (by rw [List.length_cons,List.length_nil,sizeLine_eq];omega))) ?_)
   wp_walk
   have hx':h'.get? x=some { cls:=o.cls,dict:=some h.objs.size,data:=o.data,slots:=o.slots }:=?_
   refine hq h' _ ⟨{ cls:=o.cls,dict:=some h.objs.size,data:=o.data,slots:=o.slots },hx',hc,hnc,.inr ⟨h.objs.size,rfl,hxs.symm,?_⟩⟩ (fun b ob hbx _ hb=>?_)
    (fun o₀ h₀=>by obtain rfl:o=o₀:=Option.some.inj (hx.symm.trans h₀);exact ⟨_,_,hx',rfl,rfl,rfl,rfl,(fun _=>Nat.le_refl _),fun dx e=>by rw [hdn] at e;cases e⟩)
   ·obtain ⟨o',es,ep,e1,e2,e3,eu,e4⟩:=hn';exact ⟨o',es,ep,e1,e2,e3,eu,fun y=>by rw [e4 y];by_cases hy:y=name <;> simp [hy,hmA]⟩
   ·exact (hs.2 b (Nat.ne_of_lt (Heap.lt_size hb))).trans ((Heap.get?_update_ne _ _ _ _ hbx).trans (Heap.get?_push_of_some _ hb))
   ·refine (hs.2 x hxs).trans (Heap.get?_update_self _ hx₁ ?_);have hfr:=(Heap.get?_some_iff.mp hx).2;obtain ⟨oc,od,odt,osl⟩:=o
    cases odt <;> first | rfl | exact hfr
 ·
  rw [hdx];refine wpAny_pure ?_;show wpAny _ _ (Builtin.ObjectAttr.storeInDict dx (.str name tk) name v) _ _ _;unfold Builtin.ObjectAttr.storeInDict Builtin.ObjectAttr.newKeyGuard;refine wpAny_bind (wpAny_pure (wpAny_bind (wpAny_nsSet1 hns fun h' hn' hs=>?_)));obtain ⟨oD,esD,epD,hoD,hdD,hcD⟩:=hn'.count (Within.cons name v hw);refine wpAny_bind (wpAny_lookBehind hoD (by rw [hdD];exact pastItsLine_dict (Nat.le_trans hcD (by rw [List.length_cons];omega))) ?_)
  wp_walk
  refine hq h' _ ⟨o,(hs.2 x hne.symm).trans hx,hc,hnc,.inr ⟨dx,hdx,hne,hn'⟩⟩ (fun b ob _ hbd hb=>?_)
   (fun o₀ h₀=>by obtain rfl:o=o₀:=Option.some.inj (hx.symm.trans h₀);exact ⟨_,_,(hs.2 x hne.symm).trans hx,rfl,rfl,rfl,hdx,(fun e=>by rw [hdx] at e;cases e),fun dx' e=>by rw [hdx] at e;exact Option.some.inj e⟩)
  exact (hs.2 b (hbd o dx hx hdx)).trans hb
theorem a9b{Q:Unit->Shared->Prop}{ns:List Str}(X:K.In h)
  (hC:h.get? C=some (excClassObj nm q C N bs bm true sn sub ab col dd k0 k1 k2 k3 k5 newId)) (T:OwnTail h bmV bm) (hs:PySem.W.findIn K (.ref C) "__setattr__" = some (some (.builtin "object.__setattr__"))) (hna:PySem.W.findIn K (.ref C) name=some none)
  (I:h.Inst x C mA)
  (hq:∀ h' tk',h'.Inst x C (fun y=>if y=name then some v else mA y) ->
   (∀ b o,b ≠ x->(∀ o₀ dx,h.get? x=some o₀->o₀.dict=some dx->b ≠ dx)->h.get? b=some o->h'.get? b=some o) ->
   (∀ o₀,h.get? x=some o₀->∃ o₁ dx,h'.get? x=some o₁/\o₁.cls=o₀.cls/\o₁.data=o₀.data/\o₁.slots=o₀.slots/\o₁.dict=some dx/\(o₀.dict=none->h.objs.size <= dx)/\∀ dx',o₀.dict=some dx'->dx=dx')->Q () ⟨h',g,d,tk',os⟩) (hw:PySem.Within mA ns) (hsz:ns.length < sizeLine) :
  wpAny (model prog w) A (setAttr (.ref x) name v) Q E ⟨h,g,d,t,os⟩:=by
 obtain ⟨o,hx,hc,hnc,hd⟩:=id I;have SF:=PySem.F.store_ValueError;have L1:PySem.W.Looks (model prog w) h (typeLookup (.ref C) "__setattr__") (some (.builtin "object.__setattr__")):=PySem.W.looks_findIn X hs;have f3:=SF.slot.bind (.ref x);unfold setAttr callSpecial? specialOf
 repeat (any_goals (first | assumption | (with_reducible refine wpAny_loadPart_at hx ?_;rw [hc]) | (with_reducible refine L1.at ?_) | wp_step))
 refine codeAny_call_builtin SF.slot.plain SF.entry (a6A hC T hx hc (a7S X hC T hna I (fun h' tk' I' hk hsame=>?_) hw hsz))
 repeat (any_goals (first | assumption | wp_step))
 exact hq h' tk' I' hk hsame
theorem a2E{M:Model}{o:Obj}{nameV:Value}{Q:Unit->Shared->Prop}(hC:h.get? C=some (excClassObj nm q C N bs bm true sn sub ab col dd k0 k1 k2 k3 k5 newId))(T:OwnTail h bmV bm)
  (hx:h.get? x=some o) (hc:o.cls = .ref C) (hq:Q () ⟨h,g,d,t,os⟩):wpAny M A (checkBuiltinCall "BaseException.__getattribute__" ⟨[.ref x,nameV],[]⟩) Q E ⟨h,g,d,t,os⟩:=by
 have hk:builtinKind "BaseException.__getattribute__" = some .slot:=by decide +kernel
 have hsplit:splitId "BaseException.__getattribute__" = some ("BaseException","__getattribute__"):=by decide +kernel
 have hcB:(Value.ref C :: bm).contains (.type "BaseException")=true:=by rw [List.contains_cons,T.hasType (b:=true) (by decide +kernel),Bool.or_true]
 have ha:=F.args_bexc_ga (.ref x) nameV;simp only [checkBuiltinCall,hk,hsplit];refine wpAny_bind ?_
 ·unfold isInstance
  repeat (first | (with_reducible refine wpAny_loadPart_at hx ?_;rw [hc]) | (with_reducible refine wpAny_isSubtype_exc hC ?_;rw [hcB]) | wp_step)
  exact hq
theorem a7x{ox:Obj}{od:Option Obj}{tk:Tok}{Q:Fin->Shared->Prop}(X:K.In h)(I:PySem.W.InstAt h x ox C od)(hf:PySem.W.findObj K C od name=some (.value v))(hq:Q (.done (.ret v)) ⟨h,g,d,t,os⟩) :
  wpAny (model prog w) A (Builtin.«object.__getattribute__» ⟨[.ref x,.str name tk],[]⟩) Q E ⟨h,g,d,t,os⟩:=by
 have L0:=I.type (M:=model prog w);have L3:=PySem.W.looks_find (M:=model prog w) X I hf;unfold Builtin.«object.__getattribute__»;refine wpAny_bind (wpAny_pure (wpAny_bind (wpAny_pure (wpAny_bind (L0.at (wpAny_bind (L3.at ?_)))))));exact wpAny_pure hq
theorem b7c{expr:Bool}{ox:Obj}{od:Option Obj}{Q:Value->Shared->Prop}(X:K.In h)
  (hC:h.get? C=some (excClassObj nm q C N bs bm true sn sub ab col dd k0 k1 k2 k3 k5 newId)) (T:OwnTail h bmV bm)
  (hg:PySem.W.findIn K (.ref C) "__getattribute__" = some (some (.builtin "BaseException.__getattribute__"))) (hgg:PySem.W.findIn K (.ref C) "__getattr__" = some none)
  (I:PySem.W.InstAt h x ox C od) (hf:PySem.W.findObj K C od name=some (.value v)) (hh:PySem.W.handedIn v=true) (hq:Q v ⟨h,g,d,t + 1,os⟩) :
  wpAny (model prog w) A (getAttr (.ref x) name expr) Q E ⟨h,g,d,t,os⟩:=by
 have hx:=I.at_;have hc:=I.cls;have L1:PySem.W.Looks (model prog w) h (typeLookup (.ref C) "__getattribute__") (some (.builtin "BaseException.__getattribute__")):=PySem.W.looks_findIn X hg;have L2:PySem.W.Looks (model prog w) h (typeLookup (.ref C) "__getattr__") none:=PySem.W.looks_findIn X hgg;have FB:=PySem.F.attrBase_ValueError;have f3:=FB.ga.bind (.ref x);have hx0:(expr && onTheHeap (Value.builtin "BaseException.__getattribute__"))=false:=by cases expr <;> rfl
 have hx2:(Value.builtin "BaseException.__getattribute__" == Value.builtin "object.__getattribute__")=false:=by decide +kernel
 have hx1:(onTheHeap (Value.ref C) && Value.builtin "BaseException.__getattribute__" == Value.builtin "object.__getattribute__")=false:=by rw [hx2];rfl
 unfold getAttr
 repeat (any_goals (first | assumption | (with_reducible refine wpAny_loadPart_at hx ?_;rw [hc]) | (with_reducible refine L1.at ?_) | (with_reducible refine L2.at ?_) | wp_step))
 refine codeAny_call_builtin FB.ga.plain F.entry_bexc_ga (a2E hC T hx hc (a7x X I hf ?_))
 repeat (any_goals (first | assumption | (rw [PySem.W.handedOut_of hh]) | wp_step))
end
end L2
namespace L2
open PySem PySem.Spec PyProof.Rows
def Q5(C:Addr)(dx:Option Addr)(e:Addr)(h:Heap):Prop:=∃ t0 sl,h.get? e=some { cls:=.ref C,dict:=dx,data:=.fields #[.ref t0,.none,.none,.none,.bool false,.none],slots:=sl }
def rmv(H:Hp)(e:Addr):Hp:=fun b=>if b=e then none else H b
theorem a3C{H:Hp}{e b:Addr}(h:b ≠ e):rmv H e b=H b:=by unfold rmv;rw [if_neg h]
theorem a0n{H:Hp}{e:Addr}:rmv H e e=none:=by unfold rmv;rw [if_pos rfl]
theorem a3T{P:Program}{w:World}{H:Hp}{h:Heap}{a:Addr}{φ:Heap->Prop}(p:φ h)(o:∃ o,h.get? a=some o)(k:∀ h1 h2:Heap,φ h1->(∀ o,h1.get? a=some o->h2.get? a=some o)->φ h2):ObjOk P w H h a (.ext φ):=⟨p,o,k⟩
theorem a1z{P:Program}{w:World}{H:Hp}{h:Heap}{C e:Addr}{dx:Option Addr}(p:Q5 C dx e h):ObjOk P w H h e (.ext (Q5 C dx e)) :=
 a3T p (let ⟨_,_,q⟩:=p;⟨_,q⟩) fun _ _ ⟨t0,sl,q⟩ k=>⟨t0,sl,k _ q⟩
section
variable {X:Cx} {pins:List (Addr×Obj)} {σ:St} {H:Hp} {s:Shared} {e:Addr} {φ:Heap->Prop}
theorem Inv.untrack(I:Inv X pins σ H s)(he:H e=some (.ext φ)):Inv X pins σ (rmv H e) s:=by
 have nn:∀ b,H b=none->rmv H e b=none:=fun b q=>by
  unfold rmv;split
  ·rfl
  ·exact q
 have ne:∀ b u,H b=some u->(∀ φ,u ≠ .ext φ)->rmv H e b=some u:=fun b u q d=>by
  rw [a3C fun z=>by rw [z,he] at q;exact d φ (Option.some.inj q).symm];exact q
 refine ⟨I.ok,I.os,I.bare,⟨I.base.keep,I.base.slot,fun b o q n x=>nn b (I.base.free b o q n x),I.base.there,fun b xs q=>ne b _ (I.base.tups b xs q) (fun _ z=>by cases z),fun b o u q=>ne b _ (I.base.frzs b o u q) (fun _ z=>by cases z),fun b ps q=>?_⟩,I.loc,I.cell,nn _ I.free,fun x c q=>nn _ (I.freeC x c q),fun p hp=>?_,fun b u q=>?_,I.len⟩
 ·obtain ⟨more,z⟩:=I.base.tbls b ps q;exact ⟨more,ne b _ z (fun _ z=>by cases z)⟩
 ·obtain ⟨a1,a2,a3⟩:=I.pin p hp;exact ⟨a1,nn _ a2,a3⟩
 ·have hb:b ≠ e:=fun z=>by rw [z,a0n] at q;cases q
  rw [a3C hb] at q;exact (I.hok b u q).stay (fun _ _ _ z=>z) (fun c z=>ne c _ z (fun _ z=>by cases z)) fun c xs z=>ne c _ z (fun _ z=>by cases z)
end
theorem a3z{K:PySem.W.Frag}{h:Heap}{N:Addr}{mg:Str->Option Value}{n:Str}{v:Value}(X:K.In h)(G:h.Ns N mg)(e:PySem.W.nsIn K N n=some (some v)):mg n=some v:=by
 obtain ⟨o,es,ep,ho,hd,_,hf⟩:=G;unfold PySem.W.nsIn at e
 split at e
 ·rename_i c d es' n' sl q
  have:=X _ _ q
  rw [ho] at this;cases this;cases hd
  split at e
  ·rename_i y he;cases e;rw [<- hf];unfold nsFind findBy;rw [<- Array.find?_toList,he];rfl
  ·split at e <;> cases e
 ·cases e
structure XCls(K:PySem.W.Frag)(C f:Addr):Prop where
 cls:∃ nm q N bs bm sn sub ab col dd k0 k1 k2 k3 k5,K.lookup C=some (excClassObj nm q C N bs bm true sn sub ab col dd k0 k1 k2 k3 k5 "ValueError.__new__")/\PySem.W.tailIn K bmV bm=true/\PySem.W.nsOkIn K N=true/\PySem.W.nsIn K N "__init__" = some (some (.ref f))
 fn:∃ o,K.lookup f=some o/\o.cls = .type "function"
 sa:PySem.W.findIn K (.ref C) "__setattr__" = some (some (.builtin "object.__setattr__"))
 ga:PySem.W.findIn K (.ref C) "__getattribute__" = some (some (.builtin "BaseException.__getattribute__"))
 gg:PySem.W.findIn K (.ref C) "__getattr__" = some none
 cl:PySem.W.findIn K (.ref C) "__class__" = some (some (.builtin "object.__class__"))
 cg:PySem.W.specialIn K (.builtin "object.__class__") "__get__" = some (some (.builtin "getset_descriptor.__get__"))
 ct:PySem.W.takesIn K (.builtin "object.__class__")=some true
 mo:PySem.W.mroIn K C (.type "object")=some true
def b6A(C:Addr)(sp:Sp)(E:XK)(t:TA):TS:=fun _ σ H=>t σ H fun vs H1=>∀ e,H1 e=none->sp (.ref e :: vs) (upd H1 e (.ext (Q5 C none e)))
 (fun v H2=>v = .non/\∃ dx,H2 e=some (.ext (Q5 C (some dx) e))/\E (.ref C) (some dx) (rmv H2 e)) E0
section
variable {X:Cx} {E:XK} {k:Nat} {f C:Addr} {fd:FuncData} {ps:List Str} {sp:Sp} {x:Str} {p pos cpos:Pos} {e:Expr} {es:List Expr} {t:TA}
theorem a8N(c:XCls X.K C f)(F:u7 X.prog X.w X.K X.mg X.base CX0 k f fd ps sp)(hr:Room (k + 1) X.A)(hg:Gl X x)(hm:X.mg x=some (.ref C))(hb:Binds X.K fd ps [])
  (ha:PA (X.wishX E) (e :: es) t) (hps:ps.length <= 100:=by decide) (hdb:(x == ("__debug__":Str))=false:=by decide) (he:starEach (e :: es) X.env=(false,eval e X.env) :: starEach es X.env:=by rfl) (hpl:(backTo cpos (starEach (e :: es) X.env)).any (·.1)=false:=by rfl) :
  PS (X.wishX E) (.Raise (some (.Call (.Name x p) (e :: es) [] cpos)) none pos) (b6A C sp E t):=by
 intro pins s σ H D I h;obtain ⟨nm,q,N,bs,bm,sn,sub,ab,col,dd,k0,k1,k2,k3,k5,lC,hT,hok,hi⟩:=c.cls;obtain ⟨oI,lI,fI⟩:=c.fn;have hbase:bm.contains (.type "BaseException")=true:=(PySem.W.tail_of_in I.kIn hT).hasType (by decide +kernel);refine a0i (C:=C) (nm:=nm) (q:=q) (N:=N) (bs:=bs) (bm:=bm) (hdct:=true) (sn:=sn) (sub:=sub) (ab:=ab) (col:=col) (dd:=dd) (k0:=k0) (k1:=k1) (k2:=k2) (k3:=k3) (k5:=k5) (newId:= "ValueError.__new__") hbase hr.hd hpl ?_;refine L4 (X:=X.wishX E) I hg hm ⟨rfl,?_⟩ hdb;have hA:=ha cpos pins s σ H _ I h;rw [he] at hA ⊢;refine Calls.evalArgs_plain (thn hA fun us s1 ⟨vs,H1,I1,r1,q1⟩=>⟨rfl,I1.kIn _ _ lC,?_⟩);have KX:X.K.In s1.heap:=I1.kIn;have T:=PySem.W.tail_of_in KX hT;have Ns:s1.heap.Ns N (s1.heap.nsMap N):=.of_isNs (PySem.W.isNs_of_in KX hok);have hi':s1.heap.nsMap N "__init__" = some (.ref f):=a3z KX Ns hi;obtain ⟨hp,g,d,tk,os⟩:=s1;have FV:=_root_.PySem.F.excBase_ValueError;refine a3U (mN:=hp.nsMap N) FV (by decide +kernel) FV T (KX _ _ lC) Ns hi' (KX _ _ lI) fI (fun h' e' hm' hle=>?_) ?_
 ·have I2:=I1.laid (t':=tk) (a:=e') (o:=.ext (Q5 C none e')) hm'.keeps hle (a1z (let ⟨t,ht,_⟩:=hm'.there;⟨t,_,ht⟩));have hq:=q1 e' (I1.hok.fresh hle);have r2:Vals (V.ref e' :: vs) (Value.ref e' :: us):=.cons rfl r1
  have hl:(Value.ref e' :: us ++ []).length=ps.length:=by
   rw [List.append_nil,<- r2.length,F.len _ _ _ _ hq]
  refine wpAny_call (codeAny_mono (F.run _ X.stack _ _ ⟨Value.ref e' :: us,[]⟩ (Value.ref e' :: us ++ []) _ _ E0 (hr.make C us []) (I2.env0.make C us []) (hb _ _ I2.kIn hl) (by rw [List.append_nil];exact r2) hq) fun r s' hq'=>?_)
  cases r with
  |error z=>exact hq'.elim
  |ok fl =>
   cases fl with
   |ret u =>
    obtain ⟨v,H',I3,rv,⟨rfl,dx,hx,hE⟩⟩:=I2.after hq';obtain ⟨⟨t0,sl,ho⟩,_⟩:=I3.hok _ _ hx;refine ⟨rv,e',some dx,.ref t0,sl,rfl,I3.kIn _ _ lC,ho,?_⟩;exact ⟨e',.ref C,some dx,none,.none,σ,rmv H' e',rfl,I3.unwishX.unpin.untrack hx,⟨⟨_,_,ho,rfl,rfl,rfl,rfl⟩,(fun t h=>nomatch h)⟩,(I1.unwishX.away hle).unpin,a0n,(fun t h=>nomatch h),.inl rfl,hE⟩
   |next=>exact False.elim hq'
   |brk=>exact False.elim hq'
   |cont=>exact False.elim hq'
 ·have hl:=F.len _ _ _ _ (q1 hp.objs.size (I1.hok.fresh (Nat.le_refl _)));rw [List.length_cons,r1.length] at hl;exact Nat.le_trans (show us.length <= 100 by omega) (by decide)
end
end L2
namespace L2
open PySem PySem.Spec PyProof.Rows DL
section
variable {X:Cx} {pins:List (Addr×Obj)} {σ:St} {H:Hp} {s:Shared} {a:Addr} {o:HO}
theorem Inv.adopt(I:Inv X pins σ H s)(w:Away X pins a)(hn:H a=none)(new:ObjOk X.prog X.w (upd H a o) s.heap a o):Inv X pins σ (upd H a o) s:=by
 have nn:∀ b,b ≠ a->H b=none->upd H a o b=none:=fun b q z=>by rw [p9 q];exact z
 have ne:∀ b u,H b=some u->upd H a o b=some u:=fun b u q=>by rw [p9 fun z=>by rw [z,hn] at q;cases q];exact q
 refine ⟨I.ok,I.os,I.bare,⟨I.base.keep,I.base.slot,fun b ob q n x=>nn b (fun z=>?_) (I.base.free b ob q n x),I.base.there,fun b xs q=>ne b _ (I.base.tups b xs q),fun b ob u q=>ne b _ (I.base.frzs b ob u q),fun b ps q=>?_⟩,I.loc,I.cell,nn _ (Ne.symm w.2.1) I.free,fun x c q=>nn _ (w.2.2.1 x c q) (I.freeC x c q),fun p hp=>?_,fun b u q=>?_,I.len⟩
 ·have:=Heap.lt_size q
  rw [z] at this;exact absurd (Nat.lt_of_lt_of_le this w.1) (Nat.lt_irrefl _)
 ·obtain ⟨more,z⟩:=I.base.tbls b ps q;exact ⟨more,ne b _ z⟩
 ·obtain ⟨a1,a2,a3⟩:=I.pin p hp;exact ⟨a1,nn _ (w.2.2.2 p hp) a2,a3⟩
 ·by_cases hb:b=a
  ·subst hb;rw [m8] at q;cases q;exact new
  ·rw [p9 hb] at q;exact (I.hok b u q).stay (fun _ _ _ z=>z) (fun c z=>ne c _ z) fun c xs z=>ne c _ z
theorem a2L{P:Program}{w:World}{h:Heap}{fs:List (Str×Int)}{dx:Addr}(p:G5 fs dx h):ObjOk P w H h dx (.ext (G5 fs dx)) :=
 a3T p (let ⟨_,⟨o,_,_,q,_⟩,_⟩:=p;⟨o,q⟩) fun _ _ ⟨mA,⟨o,es,ep,q,r⟩,z⟩ k=>⟨mA,⟨o,es,ep,k _ q,r⟩,z⟩
end
def PJ(X:Cx)(parts:List Expr)(n:Nat)(t:St->Hp->Prop):Prop:=∀ (pins:List (Addr×Obj)) (s:Shared) (σ:St) (H:Hp) (out:Str) (Q:Value->Shared->Prop),Inv X pins σ H s->t σ H->out.length + n <= 1000000 ->
 (∀ txt tk s',Inv X pins σ H s'->Q (.str txt tk) s')->wpAny (model X.prog X.w) X.A (joinParts out (evalEach parts X.env)) Q X.xe s
section
variable {X:Cx} {e v:Expr} {rest:List Expr} {n:Nat} {t:St->Hp->Prop} {pos p:Pos}
theorem a8d:PJ X [] 0 fun _ _=>True:=fun pins s σ H out Q I _ hl k=>joinParts_nil (k _ _ _ (I.tok _)) (by rw [sizeLine_eq];omega)
theorem a1C{c:Str}(he:PE X e (tC (.str c)))(hr:PJ X rest n t):PJ X (e :: rest) (c.length + n) t:=fun pins s σ H out Q I h hl k =>
 joinParts_cons (thn (he pins s σ H (fun v H'=>v = .str c/\H'=H) I ⟨rfl,rfl⟩) fun u s1 zz0=>by
  obtain ⟨v,H1,I1,r1,e1,e2⟩:=zz0;subst e1;subst e2;obtain ⟨tk,rfl⟩:=r1;have z:(out ++ c).length=out.length + c.length:=strLen_append out c;exact ⟨by rw [z,sizeLine_eq];omega,hr pins s1 σ H1 _ Q I1 h (by rw [z];omega) k⟩)
theorem a3P{i:Nat}(he:PE X v (b3y i))(hr:PJ X rest n t):PJ X (.FormattedValue v (-1) none p :: rest) (2000 + n) fun σ H=>(∃ a:Int,σ[i]?=some (some (.int a))/\a.natAbs.log2 < 1920)/\t σ H:=fun pins s σ H out Q I ⟨⟨a,ha,hb⟩,h⟩ hl k =>
 joinParts_cons (FormattedValue_plain (thn (he pins s σ H (fun v H'=>v = .int a/\H'=H) I ⟨_,ha,rfl,rfl⟩) fun u s1 zz0=>by
  obtain ⟨v,H1,I1,r1,e1,e2⟩:=zz0;subst e1;subst e2;obtain ⟨tk,rfl⟩:=r1;refine formatField_int_small hb ?_;have e3:=int_text_length_le (k:=1920) (by decide) hb;have z:(out ++ Str.ofString (toString a)).length=out.length + (toString a).length:=by rw [strLen_append,PySem.ofString_length]
  exact ⟨by rw [z,sizeLine_eq];omega,hr pins _ σ H1 _ Q (I1.tok _) h (by rw [z];omega) k⟩))
def b9A(t:St->Hp->Prop):TE:=fun σ H Q=>t σ H/\∀ txt,Q (.str txt) H
theorem a1k{e2:Expr}(h:PJ X (e :: e2 :: rest) n t)(hn:n <= 1000000:=by decide):PE X (.JoinedStr (e :: e2 :: rest) pos) (b9A t):=fun pins s σ H Q I ⟨ht,hq⟩ =>
 JoinedStr_many (h pins s σ H Str.empty _ I ht (by show 0 + n <= _;omega) fun txt tk s' I'=>⟨.str txt,H,I',⟨tk,rfl⟩,hq txt⟩)
end
structure b2Y(K:PySem.W.Frag)(C0:Addr):Prop where
 rd:PySem.W.readsIn K C0 (.type "type")=true
 fc:PySem.W.findCls K (.ref C0) (.type "type") "__init__" = some (.val (.builtin "ValueError.__init__"))
 sp:PySem.W.specialIn K (.ref C0) "__getattribute__" = some (some (.builtin "type.__getattribute__"))
def b4z(K:PySem.W.Frag)(t:TA):TE:=fun σ H Q=>t σ H fun vs H1=>∃ e C f txt dx,vs=[.ref e,.str txt]/\XCls K C f/\H1 e=some (.ext (Q5 C dx e))/\Q .non H1
section
variable {X:Cx} {x:Str} {C0:Addr} {p1 apos cpos:Pos} {e1:Expr} {es:List Expr} {t:TA}
theorem a6l{pl:Sem Bool}(hg:Gl X x)(hm:X.mg x=some (.ref C0))(b:b2Y X.K C0)(ha:PA X (e1 :: es) t)(hdb:(x == ("__debug__":Str))=false:=by decide)
  (hst:starEach (e1 :: es) X.env=(false,eval e1 X.env) :: starEach es X.env:=by rfl) (hpl:(backTo cpos (starEach (e1 :: es) X.env)).any (·.1)=false:=by rfl)
  (ht:eval (.Call (.Attribute (.Name x p1) "__init__" apos) (e1 :: es) [] cpos) X.env=(do
   let ov <- eval (.Name x p1) X.env
   standAt apos.atName
   let (f,first) <- holding [ov] (getMethod ov "__init__" pl)
   callWith cpos f first (backTo cpos (starEach (e1 :: es) X.env)) (backToKw cpos (keywordEach [] X.env))):=by rfl) :
  PE X (.Call (.Attribute (.Name x p1) "__init__" apos) (e1 :: es) [] cpos) (b4z X.K t):=by
 intro pins s σ H Q I h;refine PySem.W.methodCall_KW (pl:=pl) (L4 I hg hm ?_ hdb) ht;refine PySem.W.method_cls I.kIn b.sp (PySem.W.cls_value I.kIn b.rd b.fc (by decide +kernel) ?_);have I0:=I.tok (s.toks + 1);have hA:=ha cpos pins _ σ H _ I0 h;rw [hst] at hA hpl ⊢;refine Calls.callWith_builtin hpl (Calls.evalArgs_plain ?_);refine thn hA fun us s2 zz0=>?_;obtain ⟨vs,H2,I2,r2,e,C,f,txt,dx,ev,c,he,q⟩:=zz0;subst ev;obtain ⟨nm,q',N,bs,bm,sn,sub,ab,col,dd,k0,k1,k2,k3,k5,lC,hT,hok,hi⟩:=c.cls;obtain ⟨⟨t0,sl,ho⟩,_⟩:=I2.hok _ _ he;have KX:=I2.kIn;have hl:us.length <= sizeLine:=by rw [<- r2.length];show 2 <= sizeLine;decide
 cases r2 with
 |cons ra r3 =>
  obtain rfl:=ra
  obtain ⟨hp,g,d,tk,os⟩:=s2;refine a5N (_root_.PySem.F.excBase_ValueError) (PySem.W.tail_of_in KX hT) (KX _ _ lC) ho (fun h' t1 k eo=>?_) (Nat.le_trans (Nat.le_succ _) hl);have J:=I2.write (t':=tk) (x:=e) (e:=e) (o:=.ext (Q5 C dx e)) (by rw [he];exact True.intro) (.inl rfl) (fun b u n z=>k b u n z) ⟨_,eo⟩ (a1z ⟨t1,sl,eo⟩)
  have eH:upd H2 e (.ext (Q5 C dx e))=H2:=by
   funext b;unfold upd;split
   ·rename_i z;rw [z,he]
   ·rfl
  rw [eH] at J;exact ⟨.non,H2,J,rfl,q⟩
end
def sX(K:PySem.W.Frag)(ta tv:TE)(f:Str):TS:=fun D σ H=>tv σ H fun y H1=>ta σ H1 fun x H2=>∃ e C g i,x = .ref e/\y = .int i/\XCls K C g/\a2f K C f /\
 ((H2 e=some (.ext (Q5 C none e))/\∀ dx,H2 dx=none->dx ≠ e->D.nx σ (upd (upd H2 e (.ext (Q5 C (some dx) e))) dx (.ext (G5 [(f,i)] dx)))) \/
  ∃ dx fs,H2 e=some (.ext (Q5 C (some dx) e))/\XD H2 dx fs/\dx ≠ e/\fs.lookup f=none/\fs.length < 100/\D.nx σ (upd H2 dx (.ext (G5 (fs ++ [(f,i)]) dx))))
theorem a2n(fs:List (Str×Int))(f g:Str)(i:Int)(h:fs.lookup f=none):(fs ++ [(f,i)]).lookup g=if g=f then some i else fs.lookup g:=by
 induction fs with
 |nil =>
  by_cases q:g=f
  ·subst q;simp
  ·have:(g == f)=false:=beq_eq_false_iff_ne.mpr q
   simp [List.lookup,this,q]
 |cons x r ih =>
  obtain ⟨a,b⟩:=x;rw [List.cons_append,List.lookup_cons,List.lookup_cons];rw [List.lookup_cons] at h
  by_cases q:(f == a)=true
  ·rw [q] at h;cases h
  ·have q:(f == a)=false:=by simpa using q
   rw [q] at h;rw [ih h]
   by_cases z:(g == a)=true
   ·rw [z]
    have:g ≠ f:=fun y=>by rw [y,q] at z;cases z
    simp [this]
   ·have z:(g == a)=false:=by simpa using z
    rw [z]
section
variable {X:Cx} {o value:Expr} {f:Str} {pos pos':Pos} {ta tv:TE}
theorem b9v(ha:PE X o ta)(hv:PE X value tv)(hs:swapsWith value (some (.Attribute o f pos')) pos.line X.env=pure false:=by rfl):PS X (.Assign [.Attribute o f pos'] value pos) (sX X.K ta tv f):=by
 intro pins s σ H D I h;refine plainObj_wpAny_Assign_Attribute (thn (hv pins s σ H _ I h) fun u s1 zz0=>?_) hs;obtain ⟨y,H1,I1,ry,q⟩:=zz0;refine thn (ha pins s1 σ H1 _ I1 q) fun ov s2 zz0=>?_;obtain ⟨x,H2,I2,rx,e,C,g,i,ex,ey,c,n,q2⟩:=zz0;subst ex;subst ey
 obtain rfl:ov=Value.ref e:=rx
 obtain ⟨tku,rfl⟩:=ry;obtain ⟨nm,q',N,bs,bm,sn,sub,ab,col,dd,k0,k1,k2,k3,k5,lC,hT,hok,hi⟩:=c.cls;have KX:=I2.kIn;have T:=PySem.W.tail_of_in KX hT;obtain ⟨hp,gg,d,tk,os⟩:=s2
 rcases q2 with ⟨he,q2⟩ | ⟨dx,fs,he,hd,hne,hl,hlen,q2⟩
 ·obtain ⟨⟨t0,sl,ho⟩,_⟩:=I2.hok _ _ he;refine a9b (mA:=fun _=>none) (ns:=[]) KX (KX _ _ lC) T c.sa n ⟨_,ho,rfl,(fun c z=>by cases z),.inl ⟨rfl,fun _=>rfl⟩⟩ (fun h' tk' I' hk hsame=>?_) (fun y hy=>absurd rfl hy) (by decide);obtain ⟨o1,dx,e1,ec,ed,es,edx,enew,_⟩:=hsame _ ho;have hdx:hp.objs.size <= dx:=enew rfl;have hne:dx ≠ e:=fun z=>absurd (Nat.lt_of_lt_of_le (Heap.lt_size ho) (z ▸ hdx)) (Nat.lt_irrefl _)
  have J:=I2.write (t':=tk') (x:=e) (e:=e) (o:=.ext (Q5 C (some dx) e)) (by rw [he];exact True.intro) (.inl rfl) (fun b u nb z=>hk b u nb (fun o₀ dx' z1 z2=>by rw [ho] at z1;cases z1;cases z2) z) ⟨_,e1⟩ (a1z ⟨t0,sl,by
   rw [e1];obtain ⟨a1,a2,a3,a4⟩:=o1;cases ec;cases ed;cases es;cases edx;rfl⟩)
  have hn0:H2 dx=none:=I2.hok.fresh hdx
  have J2:=J.adopt (a:=dx) (o:=.ext (G5 [(f,i)] dx)) (I2.away hdx) (by rw [p9 hne];exact hn0) (a2L (by
   obtain ⟨o2,z1,_,_,z2⟩:=I';rw [e1] at z1;cases z1
   rcases z2 with ⟨z2,_⟩ | ⟨d2,z2,_,z3⟩
   ·rw [edx] at z2;cases z2
   ·rw [edx] at z2;cases z2;refine ⟨_,z3,fun y hy=>?_,fun y=>?_⟩
    ·by_cases zz:y=f
     ·simp [zz]
     ·exact absurd (if_neg zz) hy
    ·by_cases zz:y=f
     ·subst zz;show RelO (Option.map V.int (List.lookup y [(y,i)])) _;rw [if_pos rfl];simp;exact ⟨tku,rfl⟩
     ·have:(y == f)=false:=beq_eq_false_iff_ne.mpr zz
      show RelO (Option.map V.int (List.lookup y [(f,i)])) _;rw [if_neg zz];simp [List.lookup,this];exact True.intro))
  exact ⟨σ,_,J2,q2 dx hn0 hne⟩
 ·obtain ⟨⟨t0,sl,ho⟩,_⟩:=I2.hok _ _ he;obtain ⟨⟨mA,hns,hw,hr⟩,_⟩:=I2.hok _ _ hd;refine a9b (mA:=mA) (ns:=fs.map (·.1)) KX (KX _ _ lC) T c.sa n ⟨_,ho,rfl,(fun c z=>by cases z),.inr ⟨dx,rfl,hne,hns⟩⟩ (fun h' tk' I' hk hsame=>?_) hw (by rw [List.length_map,sizeLine_eq];omega);obtain ⟨o1,dx1,e1,ec,ed,es,edx,_,eold⟩:=hsame _ ho
  obtain rfl:=eold dx rfl
  have eo:o1={ cls:=.ref C,dict:=some dx1,data:=.fields #[.ref t0,.none,.none,.none,.bool false,.none],slots:=sl }:=by
   obtain ⟨a1,a2,a3,a4⟩:=o1;cases ec;cases ed;cases es;cases edx;rfl
  have hd':H2 dx1=some (.ext (G5 fs dx1)):=hd
  have J:=I2.write (t':=tk') (x:=dx1) (e:=dx1) (o:=.ext (G5 (fs ++ [(f,i)]) dx1)) (by rw [hd'];exact True.intro) (.inl rfl) (fun b u nb z=>by
   by_cases zb:b=e
   ·subst zb;rw [ho] at z;cases z;rw [e1,eo]
   ·exact hk b u zb (fun o₀ dx' z1 z2=>by rw [ho] at z1;cases z1;cases z2;exact nb) z) ?_ ?_
  ·exact ⟨σ,_,J,q2⟩
  ·obtain ⟨o2,z1,_,_,z2⟩:=I';rw [e1] at z1;cases z1
   rcases z2 with ⟨z2,_⟩ | ⟨d2,z2,_,o3,_,_,z3,_⟩
   ·rw [edx] at z2;cases z2
   ·rw [edx] at z2;cases z2;exact ⟨_,z3⟩
  ·refine a2L ?_;obtain ⟨o2,z1,_,_,z2⟩:=I';rw [e1] at z1;cases z1
   rcases z2 with ⟨z2,_⟩ | ⟨d2,z2,_,z3⟩
   ·rw [edx] at z2;cases z2
   ·rw [edx] at z2;cases z2;refine ⟨_,z3,fun y hy=>?_,fun y=>?_⟩
    ·by_cases zz:y=f
     ·simp [zz]
     ·have:mA y ≠ none:=fun w=>hy (by show (if y=f then _ else mA y)=none;rw [if_neg zz];exact w)
      have:=hw y this
      rw [List.map_append];exact List.mem_append_left _ this
    ·rw [a2n fs f y i hl]
     by_cases zz:y=f
     ·rw [if_pos zz];show RelO (some (V.int i)) (if y=f then _ else mA y);rw [if_pos zz];exact ⟨tku,rfl⟩
     ·rw [if_neg zz];show RelO _ (if y=f then _ else mA y);rw [if_neg zz];exact hr y
end
end L2
namespace L2
open PySem PySem.Spec PyProof.Rows
section
variable {prog:Program} {w:World} {A:Around} {E:Value->Shared->Prop} {h:Heap} {g:Array GenState} {d:Drawn} {t:Nat} {os:OsState} {K:PySem.W.Frag}
variable {nm q:Str} {C N x:Addr} {bs bm:List Value} {sn:List Str} {sub:List Value} {ab:Bool} {col:Option Bool} {dd:Option Addr} {k0 k1 k2 k3 k5:Option Value} {newId:String}
theorem a6v{ox:Obj}{od:Option Obj}{Q:Option Value->Shared->Prop}(X:K.In h)
  (hC:h.get? C=some (excClassObj nm q C N bs bm true sn sub ab col dd k0 k1 k2 k3 k5 newId)) (T:OwnTail h bmV bm)
  (hg:PySem.W.findIn K (.ref C) "__getattribute__" = some (some (.builtin "BaseException.__getattribute__"))) (hgg:PySem.W.findIn K (.ref C) "__getattr__" = some none)
  (I:PySem.W.InstAt h x ox C od) (hf:PySem.W.findObj K C od "__class__" = some (.bind (.builtin "getset_descriptor.__get__") (.builtin "object.__class__"))) (hm:PySem.W.mroIn K C (.type "object")=some true)
  (hq:Q (some (.ref C)) ⟨h,g,d,t + 1,os⟩):wpAny (model prog w) A (getAttr? (.ref x) "__class__") Q E ⟨h,g,d,t,os⟩:=by
 have hx:=I.at_;have hc:=I.cls;have L0:=I.type (M:=model prog w);have L1:PySem.W.Looks (model prog w) h (typeLookup (.ref C) "__getattribute__") (some (.builtin "BaseException.__getattribute__")):=PySem.W.looks_findIn X hg;have L2:PySem.W.Looks (model prog w) h (typeLookup (.ref C) "__getattr__") none:=PySem.W.looks_findIn X hgg;have L3:=PySem.W.looks_find (M:=model prog w) X I hf;have FB:=PySem.F.attrBase_ValueError;have f3:=FB.ga.bind (.ref x);have hx2:(Value.builtin "BaseException.__getattribute__" == Value.builtin "object.__getattribute__")=false:=by decide +kernel
 have hx1:(onTheHeap (Value.ref C) && Value.builtin "BaseException.__getattribute__" == Value.builtin "object.__getattribute__")=false:=by rw [hx2];rfl
 have hx0:(false && onTheHeap (Value.builtin "BaseException.__getattribute__"))=false:=rfl;unfold getAttr? getAttrBy?
 repeat (any_goals (first | assumption | (with_reducible refine wpAny_loadPart_at hx ?_;rw [hc]) | (with_reducible refine L1.at ?_) | (with_reducible refine L2.at ?_) | wp_step))
 refine codeAny_call_builtin FB.ga.plain F.entry_bexc_ga (a2E hC T hx hc ?_);unfold Builtin.«object.__getattribute__»;refine wpAny_bind (wpAny_pure (wpAny_bind (wpAny_pure (wpAny_bind (L0.at (wpAny_bind (L3.at ?_)))))));show wpAny _ _ (Builtin.ObjectAttr.bindTo _ _ _ _) _ _ _;unfold Builtin.ObjectAttr.bindTo;dsimp only;refine wpAny_bind (wpAny_holding (wpAny_call (PySem.W.class_get (s:=⟨h,g,d,t + 1,os⟩) X I hm ?_)))
 repeat (any_goals (first | assumption | wp_step))
end
end L2
namespace L2
open PySem PySem.Spec PyProof.Rows DL
section
variable {X:Cx} {pins:List (Addr×Obj)} {σ:St} {H:Hp} {s:Shared}
theorem Z9{M:Model}{A:Around}{E:Value->Shared->Prop}{j:Nat}{n:Str}{pos:Pos}{Q:Unit->Shared->Prop}(I:Inv X pins σ H s)(hN:X.N.Nodup)(hj:X.N[j]?=some n)(hk:X.env.kindOf n=some .local)
  (h:∀ s',Inv X pins (σ.set j none) H s'->Q () s'):wpAny M A (do bindName X.env n .none;unbindBehindTheSuite X.env n pos) Q E s:=by
 obtain ⟨m,hn,hl⟩:=id I.loc;have hcls:(X.env.scope.kind == .class || (X.env.scope.kind == .module && X.env.locals != X.env.globals))=false:=by rw [I.ok.kind];rfl
 have cne:=I.cne
 have tracked:∀ {a:Addr} {h':Heap},(∃ o,s.heap.get? a=some o/\H a=none)->Heap.SameBut a s.heap h'->HOk X.prog X.w H h':=fun {a h'} ha hs b ob e=>by
  obtain ⟨_,_,hfree⟩:=ha;refine (I.hok b ob e).stay (fun c w' hc q=>(hs.2 c ?_).trans q) (fun _ q=>q) fun _ _ q=>q
  rintro rfl
  rcases hc with rfl | hc
  ·rw [hfree] at e;cases e
  ·rw [hfree] at hc;cases hc
 refine wpAny_nameGoes_keeps hk hn hcls fun h' v hn' hs=>?_;obtain ⟨oL,_,_,hoL,_⟩:=id hn;refine h _ ⟨I.ok,I.os,I.bare,⟨fun b o e n hb hx=>?_,fun b o e n hb hx=>?_,I.base.free,fun b o e hx=>?_,I.base.tups,I.base.frzs,I.base.tbls⟩,⟨_,hn',fun i y v' e1 e2 e3=>?_⟩,fun y c e=>?_,I.free,I.freeC,fun p hp=>?_,tracked ⟨oL,hoL,I.free⟩ hs,by simpa using I.len⟩
 ·exact (hs.2 b (Nat.ne_of_lt (Nat.lt_of_lt_of_le (Heap.lt_size e) I.ok.above))).trans (I.base.keep b o e n hb hx)
 ·obtain ⟨sl,e1⟩:=I.base.slot b o e n hb hx;exact ⟨sl,(hs.2 b (Nat.ne_of_lt (Nat.lt_of_lt_of_le (Heap.lt_size e) I.ok.above))).trans e1⟩
 ·obtain ⟨o',e1⟩:=I.base.there b o e hx;exact ⟨o',(hs.2 b (Nat.ne_of_lt (Nat.lt_of_lt_of_le (Heap.lt_size e) I.ok.above))).trans e1⟩
 ·by_cases hi:i=j
  ·subst hi
   have:i < σ.length:=by
    have:=(List.getElem?_eq_some_iff.mp e2).1
    simpa using this
   rw [List.getElem?_set_self this] at e2;cases e2
  ·rw [List.getElem?_set_ne (Ne.symm hi)] at e2;obtain ⟨u',r',q⟩:=hl i y v' e1 e2 e3;refine ⟨u',r',?_⟩
   rcases q with ⟨k,e⟩ | ⟨k,c,e,z⟩
   ·refine .inl ⟨k,?_⟩
    have:y ≠ n:=fun e=>hi (a0r hN e1 (e ▸ hj))
    simp [this,e]
   ·exact .inr ⟨k,c,e,z.sameBut hs (cne y c e)⟩
 ·obtain ⟨w',z⟩:=I.cell y c e;exact ⟨w',z.sameBut hs (cne y c e)⟩
 ·obtain ⟨e,n,ne,nf,d⟩:=I.pin p hp;exact ⟨(hs.2 p.1 ne).trans e,n,ne,nf,d⟩
end
def PEX(X:Cx)(e:Expr)(t:St->Hp->VK->XK->Prop):Prop:=∀ (pins:List (Addr×Obj)) (s:Shared) (σ:St) (H:Hp) (Q:VK) (E:XK),Inv X pins σ H s->t σ H Q E ->
 wpAny (model X.prog X.w) X.A (eval e X.env) (EP X pins σ Q) (fun x s'=>X.xe x s'\/∃ H1 s1,Inv X pins σ H1 s1/\CXE X.prog X.w X.stack H1 s1 E x s') s
def PSX(X:Cx)(st:Stmt)(t:M9->XK->St->Hp->Prop):Prop:=∀ (pins:List (Addr×Obj)) (s:Shared) (σ:St) (H:Hp) (D:M9) (E:XK),Inv X pins σ H s->t D E σ H ->
 wpAny (model X.prog X.w) X.A (exec st X.env) (SP X pins D) (fun x s'=>X.xe x s'\/∃ H1 s1,Inv X pins σ H1 s1/\CXE X.prog X.w X.stack H1 s1 E x s') s
section
variable {X:Cx} {k:Nat} {f:Addr} {fd:FuncData} {ps:List Str} {sp:Sp} {x:Str} {p pos:Pos} {e:Expr} {es:List Expr} {t:TA} {te:St->Hp->VK->XK->Prop}
theorem a9i(F:u7 X.prog X.w X.K X.mg X.base (CXE X.prog X.w) k f fd ps sp)(hr:Room k X.A)(hg:Gl X x)(hm:X.mg x=some (.ref f))(hk:PySem.W.keepIn X.K (.ref f)=true)(hb:Binds X.K fd ps [])
  (ha:PA X (e :: es) t) (hdb:(x == ("__debug__":Str))=false:=by decide) (he:starEach (e :: es) X.env=(false,eval e X.env) :: starEach es X.env:=by rfl) (hpl:(backTo pos (starEach es X.env)).any (·.1)=false:=by rfl) :
  PEX X (.Call (.Name x p) (e :: es) [] pos) (fun σ H Q E=>t σ H fun vs H1=>sp vs H1 Q E):=by
 intro pins s σ H Q E I h;refine wpAny_Call_Name_kw (L4 I hg hm ?_ hdb);refine PySem.W.callWith_K (h₀:=X.base) I.ok.mod.kin hk (wpAny_mono (ha pos pins s σ H _ I h) (fun us s1 ⟨vs,H1,I1,r,q⟩=>⟨I1.kIn,?_⟩) (fun _ _ z=>.inl z)) he hpl;have hl:(us ++ []).length=ps.length:=by rw [List.append_nil,<- r.length];exact F.len _ _ _ _ q
 refine wpAny_call (codeAny_mono (F.run X.A X.stack s1 H1 ⟨us,[]⟩ (us ++ []) vs Q E hr I1.env0 (hb s1 us I1.kIn hl) (by rw [List.append_nil];exact r) q) fun r s' hq=>?_)
 cases r with
 |error z=>exact .inr ⟨H1,s1,I1,hq⟩
 |ok fl =>
  cases fl with
  |ret u=>exact I1.after hq
  |next=>exact False.elim hq
  |brk=>exact False.elim hq
  |cont=>exact False.elim hq
theorem a9l(he:PEX X e te)(hs:swapsWith e none pos.line X.env=pure false:=by rfl):PSX X (.Expr e pos) (fun D E σ H=>te σ H (fun _ H1=>D.nx σ H1) E):=by
 intro pins s σ H D E I h;exact wpAny_Expr_any (thn (he pins s σ H _ E I h) fun v s1 ⟨x,H1,I1,r1,q1⟩=>⟨σ,H1,I1,q1⟩) I.quiet hs
end
abbrev Cx.hnd(X:Cx)(a:Addr):Cx:={ X with A:=X.A.mark (some (.ref a)),calm:=false,xe:=fun _ _=>False }
section
variable {X:Cx} {pins:List (Addr×Obj)} {σ:St} {H:Hp} {s:Shared} {a:Addr}
theorem Inv.hnd(I:Inv X pins σ H s)(a:Addr):Inv (X.hnd a) pins σ H s :=
 ⟨⟨I.ok.mod,I.ok.kind,I.ok.glob,I.ok.blt,I.ok.above,I.ok.inj,I.ok.has,I.ok.cab,(fun z=>nomatch z),I.ok.frames,I.ok.stk,I.ok.exf,I.ok.bs,I.ok.bsz,I.ok.noex,I.ok.exfs,I.ok.funs,I.ok.frf⟩,I.os,I.bare,I.base,I.loc,I.cell,I.free,I.freeC,I.pin,I.hok,I.len⟩
theorem Inv.unhnd(ok:X.Ok)(I:Inv (X.hnd a) pins σ H s):Inv X pins σ H s:=⟨ok,I.os,I.bare,I.base,I.loc,I.cell,I.free,I.freeC,I.pin,I.hok,I.len⟩
end
def b9H(K:PySem.W.Frag)(CB:Addr)(j:Nat)(tb:M9->XK->St->Hp->Prop)(th:TS):TS:=fun D σ H=>tb D (fun cls dx H'=>∃ C d,cls = .ref C/\dx=d/\PySem.W.exmOne K cls (.ref CB)=some true /\
 ∀ a,H' a=none->th { nx:=fun σ' H''=>D.nx (σ'.set j none) H'',rt:=D.rt,bk:=fun σ' H''=>D.bk (σ'.set j none) H'',ct:=fun σ' H''=>D.ct (σ'.set j none) H'' } (σ.set j (some (.ref a))) (upd H' a (.ext (Y6 C d a)))) σ H
section
variable {X:Cx} {st b₀:Stmt} {suite:List Stmt} {tb:M9->XK->St->Hp->Prop} {th:TS} {cx n:Str} {CB:Addr} {cp hpos pos:Pos} {j:Nat}
theorem b3D(hst:X.stack=X.env :: X.outer/\X.env.frame=some X.env.locals)(hxe:∀ e s,¬ X.xe e s)(hb:PSX X st tb)(hgc:Gl X cx)(hmc:X.mg cx=some (.ref CB))(hN:X.N.Nodup)(hj:X.N[j]?=some n)(hk:X.env.kindOf n=some .local)
  (hB:∀ a,PSs (X.hnd a) (b₀ :: suite) th) (hf:X.fn n=true\/X.env.scope.names.lookup n=some .local:=by trivial) (hdb:(cx == ("__debug__":Str))=false:=by decide) :
  PS X (.Try [st] [.ExceptHandler (some (.Name cx cp)) (some n) (b₀ :: suite) hpos] [] [] pos) (b9H X.K CB j tb th):=by
 intro pins s σ H D I h;refine wpAny_Try_except ?_;have hb':=hb pins s σ H D _ I h;refine wpAny_execs_cons (wpAny_mono hb' (fun f s1 q=>?_) fun x s' hx=>?_)
 ·cases f with
  |next=>exact wpAny_execs_nil (wpAny_execs_nil q)
  |ret v=>exact q
  |brk=>exact q
  |cont=>exact q
 rcases hx with hx | ⟨H1,s1,I1,a,cls,dx,t,H',rfl,os,bare,un,hok,ex,wa,ha,wt,ht,C,d,rfl,hdd,exm,kk⟩
 ·exact absurd hx (hxe _ _)
 obtain rfl:d=dx:=hdd.symm
 have I2:Inv X pins σ H' s':=I1.call' (ch:=[]) os un hok bare (fun b z=>absurd z (by simp));have aw:=I1.away wa;have tw:=I1.away wt;refine a4x (base:=X.base) (outer:=X.outer) (by rw [I2.ok.frames,hst.1]) (by have:=I2.stack;rw [hst.1] at this;exact this) hst.2 ex (.inl rfl) fun h1 t1 c1 ht1 e1=>?_;rw [<- hst.1] at c1;have I3:=I2.chg c1 ha (fun t' h=>by cases h;exact ht) aw (fun t' h=>by cases h;exact tw)
 have wt1:Away X pins t1/\H' t1=none:=by
  rcases ht1 with z | z
  ·cases z;exact ⟨tw,ht⟩
  ·exact ⟨I2.away z,I2.hok.fresh z⟩
 refine W9 (s:={ s' with heap:=h1 }) e1 fun h2 k1 k2 e2=>?_;have c2:Chg (frs X.stack) a (some t1) h1 h2:=S6 (fun b o e n=>k1 b o rfl e n) k2;have I4:=I3.chg (a:=a) (T:=some t1) c2 ha (fun t' h=>by cases h;exact wt1.2) aw (fun t' h=>by cases h;exact wt1.1);refine wpAny_handleBy_cons (codeAny_handlers_test ?_) (by intro q;cases q);refine L4 (X:=X.hnd a) (I4.hnd a) hgc hmc ?_ hdb
 have LT:PySem.W.Looks (model X.prog X.w) h2 (typeOf (.ref a)) (.ref C):=by
  obtain ⟨⟨o,vs,z1,z2,_⟩,_⟩:=e2;rw [<- z2];exact (PySem.W.Looks.ld z1).andThen .now
 refine (PySem.W.exm_one (M:=model X.prog X.w) (h:=h2) I4.kIn LT exm).here ?_;refine codeAny_handlers_suite_as ?_;refine W9 (s:={ s' with heap:=h2 }) e2 fun h3 k3 k4 e3=>?_;have c3:Chg (frs X.stack) a (some t1) h2 h3:=S6 (fun b o e n=>k3 b o rfl e n) k4;have I5:=I4.chg (a:=a) (T:=some t1) c3 ha (fun t' h=>by cases h;exact wt1.2) aw (fun t' h=>by cases h;exact wt1.1)
 have xa:Y6 C d a h3:=by
  obtain ⟨⟨o,vs,z1,z2,z3,z4,_⟩,_⟩:=e3;exact ⟨o,vs,z1,z2,z3,z4⟩
 have I6:=I5.adopt (a:=a) (o:=.ext (Y6 C d a)) aw ha (a3T xa (let ⟨o,_,q,_⟩:=xa;⟨o,q⟩) fun _ _ ⟨o,vs,z1,z2⟩ k=>⟨o,vs,k _ z1,z2⟩);refine W2 (X:=X.hnd a) (v:=.ref a) (I6.hnd a) hN hj (.inl hk) rfl (fun s7 I7=>?_) hf;refine wpAny_mono (hB a pins s7 _ _ _ I7 (kk a ha)) (fun f s8 q=>?_) fun _ _ z=>z.elim;have ok:=I.ok
 cases f with
 |next=>obtain ⟨σ',H'',J,q⟩:=q;exact Z9 (J.unhnd ok) hN hj hk fun s9 J9=>⟨_,H'',J9,q⟩
 |brk=>obtain ⟨σ',H'',J,q⟩:=q;exact Z9 (J.unhnd ok) hN hj hk fun s9 J9=>⟨_,H'',J9,q⟩
 |cont=>obtain ⟨σ',H'',J,q⟩:=q;exact Z9 (J.unhnd ok) hN hj hk fun s9 J9=>⟨_,H'',J9,q⟩
 |ret u=>obtain ⟨v,σ',H'',J,r,q⟩:=q;exact Z9 (J.unhnd ok) hN hj hk fun s9 J9=>⟨v,_,H'',J9,r,q⟩
end
end L2
namespace DL
open PySem PySem.Spec L2
abbrev V6:=List D->Hh->DK->DX->Prop
inductive spX(K:PySem.W.Frag)(n:Nat)(g:V6)(vs:List V)(H:Hp)(Q:VK)(E:XK):Prop
 |mk (π:List Addr) (α:List Addr) (h:Hh) (ds:List D) (Q':DK) (X':DX):HRel ⟨K,π⟩ α H h->RelDs ⟨K,π⟩ α H ds vs->ds.length=n->g ds h Q' X' ->
   (∀ d h' α' H' v,Q' d h'->Ext α H α' H'->HRel ⟨K,π⟩ α' H' h'->RelD ⟨K,π⟩ α' H' d v->Q v H') ->
   (∀ cn fs h' α' H' C dx,X' cn fs h'->Ext α H α' H'->HRel ⟨K,π⟩ α' H' h'->PySem.W.nsIn K mainGlobals cn=some (some (.ref C))->XQ ⟨K,π⟩ α' H' dx fs->E (.ref C) dx H')->spX K n g vs H Q E
def q8(n:Nat)(b:DS):V6:=fun ds h Q X'=>b { nx:=fun _ h'=>Q .non h',rt:=Q,ex:=X' } (ds.map some ++ List.replicate (n - ds.length) none) h
def DrX(h:Hh)(X':DX):DX:=fun cn fs h'=>Dr h (fun _ h2=>X' cn fs h2) .non h'
structure a7p(P:Program)(w:World)(K:PySem.W.Frag)(mg:Str->Option Value)(base:Heap)(k:Nat)(x:Str)(ps:List Str)(sp:Sp):Prop where
 ex:∃ (f:Addr) (fd:FuncData),u7 P w K mg base (CXE P w) k f fd ps sp/\mg x=some (.ref f)/\PySem.W.keepIn K (.ref f)=true/\Binds K fd ps []
section
variable {P:Program} {w:World} {K:PySem.W.Frag} {mg:Str->Option Value} {base:Heap}
theorem b4x{x qual:Str}{st:Stmt}{f:Addr}{fd:FuncData}{N ps:List Str}{k:Nat}{b:DS}{g:V6}(F:Fun K x qual st f fd)(S:j6 N ps (d9 st))
  (hb:∀ (cdv:Value) (A:Around) (outer:List Env) (s:Shared) (H:Hp) (E:XK),Room k (A.deeper (PyProof.Rows.envOfC qual (d9 st) s.heap.objs.size f cdv))->SSs ((Z2 (CXE P w) P w K mg base N qual (d9 st) f cdv A outer s H E).wishX E) (A5 st) b)
  (hg:∀ ds h Q X',g ds h Q X'->q8 N.length b ds h (Dr h Q) (DrX h X')):u7 P w K mg base (CXE P w) (k + 1) f fd ps (spX K ps.length g):=by
 refine F.okX S (fun vs H Q E h=>?_) fun cdv A outer s H vs Q E hr h=>?_
 ·obtain ⟨π,α,h,ds,Q',X',R,r,l,_⟩:=h;rw [<- r.length,l]
 ·obtain ⟨π,α,h,ds,Q',X',R,r,l,q,kk,kx⟩:=h;refine ⟨_,hb cdv A outer s H E hr,π,α,_,h,{ nx:=fun _ h'=>Dr h Q' .non h',rt:=Dr h Q',ex:=DrX h X' },R,T3 r,hg ds h Q' X' q,⟨fun _ h' α' H' σ' a b c _=>?_,fun d h' α' H' v a b c d'=>?_,fun _ _ _ _ _ a _ _ _=>a.elim,fun _ _ _ _ _ a _ _ _=>a.elim,fun cn fs h' α' H' C dx a b c d d2=>?_⟩⟩
  ·obtain ⟨d',h2,q,e,R2,r2⟩:=a.rel R b c .non;exact kk d' h2 α H' .non q e R2 r2
  ·obtain ⟨d',h2,q,e,R2,r2⟩:=a.rel R b c d';exact kk d' h2 α H' v q e R2 r2
  ·obtain ⟨d',h2,q,e,R2,r2⟩:=Dr.rel R b c .non a;exact kx cn fs h2 α H' C dx q e R2 d (d2.map fun _ _ d2=>⟨fun z=>d2.1 (by obtain ⟨β,hβ,_⟩:=b.pre;rw [hβ];exact List.mem_append_left _ z),d2.2⟩)
end
section
variable {X:Cx} {k m:Nat} {ps:List Str} {g:V6} {x:Str} {p pos:Pos} {e:Expr} {es:List Expr} {n:Nat} {f:DA}
theorem b0j(c:a7p X.prog X.w X.K X.mg X.base k x ps (spX X.K m g))(hr:Room k X.A)(hg:Gl X x)(ha:SA X (e :: es) n f)(hn:n=m:=by rfl)(hdb:(x == ("__debug__":Str))=false:=by decide)
  (he:starEach (e :: es) X.env=(false,eval e X.env) :: starEach es X.env:=by rfl) (hpl:(backTo pos (starEach es X.env)).any (·.1)=false:=by rfl):SE X (.Call (.Name x p) (e :: es) [] pos) (l8 (fun ds h Q=>g ds h Q fun _ _ _=>False) f):=by
 obtain ⟨fa,fd,F,hm,hk,hb⟩:=c.ex;refine PE.imp (a2b F hr hg hm hk hb .nil a7J ha hdb he hpl) fun σ H Q zz0=>?_;obtain ⟨π,α,δ,h,Q',R,S,f,k⟩:=zz0;refine ⟨π,α,δ,h,_,R,S,f,fun ds h1 α1 H1 vs f1 e1 R1 q1 l1=>?_⟩;show spX X.K m g (vs ++ []) H1 Q E0;rw [List.append_nil];exact ⟨π,α1,h1,ds,Q',_,R1,q1,l1.trans hn,f1,fun d h' α' H' v a b c d'=>k d h' α' H' v a (e1.trans b) c d',fun _ _ _ _ _ _ _ a _ _ _=>a.elim⟩
end
abbrev DEX:=Sl->Hh->DK->DX->Prop
def c0r(g:V6)(f:DA):DEX:=fun δ h Q X'=>f δ h fun ds h1=>g ds h1 Q X'
def c0W(fa:DEX)(fc:DE):DEX:=fun δ h Q X'=>fa δ h (fun x h1=>fc δ h1 fun y h2=>pIx x y h2 Q) X'
def b9x(f:DEX):DS:=fun En δ h=>f δ h (fun _ h1=>En.nx δ h1) En.ex
def c0T(f:DEX):DS:=fun En δ h=>f δ h En.rt En.ex
section
variable {X:Cx} {E:XK} {k m:Nat} {ps:List Str} {g:V6} {x:Str} {p pos:Pos} {e a c:Expr} {es:List Expr} {n:Nat} {f:DA} {fa:DEX} {fc:DE}
end
def spI(C:Addr)(ns:List Str):Sp:=fun vs H Q _=>∃ (e:Addr) (is:List Int),vs = .ref e :: is.map V.int/\is.length=ns.length/\(∀ i ∈ is,i.natAbs.log2 < 1920)/\H e=some (.ext (Q5 C none e)) /\
 ∀ dx,H dx=none->dx ≠ e->Q .non (upd (upd H e (.ext (Q5 C (some dx) e))) dx (.ext (G5 (ns.zip is) dx)))
def a3j(cn:Str)(ns:List Str)(f:DA):DS:=fun En δ h=>f δ h fun ds h1=>∃ is:List Int,ds=is.map D.int/\is.length=ns.length/\(∀ i ∈ is,i.natAbs.log2 < 1920)/\En.ex cn (ns.zip is) h1
theorem a2W{K:KP}{α:List Addr}{H:Hp}:∀ {is:List Int} {vs:List V},RelDs K α H (is.map D.int) vs->vs=is.map V.int
 |[],_,.nil=>rfl
 |i :: is,_,.cons r t=>by cases r;rw [a2W t];rfl
structure a3A(P:Program)(w:World)(K:PySem.W.Frag)(mg:Str->Option Value)(base:Heap)(k:Nat)(x:Str)(ps ns:List Str):Prop where
 ex:∃ (C f:Addr) (fd:FuncData),mg x=some (.ref C)/\PySem.W.nsIn K mainGlobals x=some (some (.ref C))/\XCls K C f/\u7 P w K mg base CX0 k f fd ps (spI C ns)/\Binds K fd ps []
section
variable {X:Cx} {E:XK} {k:Nat} {ps ns:List Str} {x:Str} {p pos cpos:Pos} {e:Expr} {es:List Expr} {n:Nat} {f:DA}
theorem a4P(c:a3A X.prog X.w X.K X.mg X.base k x ps ns)(hr:Room (k + 1) X.A)(hg:Gl X x)(ha:SA (X.wishX E) (e :: es) n f)(hps:ps.length <= 100:=by decide)(hdb:(x == ("__debug__":Str))=false:=by decide)
  (he:starEach (e :: es) X.env=(false,eval e X.env) :: starEach es X.env:=by rfl) (hpl:(backTo cpos (starEach (e :: es) X.env)).any (·.1)=false:=by rfl) :
  SS (X.wishX E) (.Raise (some (.Call (.Name x p) (e :: es) [] cpos)) none pos) (a3j x ns f):=by
 obtain ⟨C,fi,fd,hbd,hns,cl,F,hb⟩:=c.ex;refine PS.imp (a8N (X:=X) (E:=E) cl F hr hg hbd hb ha hps hdb he hpl) fun F' σ H zz0=>?_;obtain ⟨π,α,δ,h,En,R,S,q,k⟩:=zz0;refine ⟨π,α,δ,h,_,R,S,q,fun ds h1 α1 H1 vs f1 e1 R1 r1 l1=>?_⟩;obtain ⟨is,rfl,hl,hb',hex⟩:=f1;intro e' he';refine ⟨e',is,by rw [a2W r1],hl,hb',m8,fun dx hdx hne=>⟨rfl,dx,?_,?_⟩⟩
 ·rw [p9 (Ne.symm hne),m8]
 ·have hn1:H1 dx=none:=by rw [p9 hne] at hdx;exact hdx
  have eH:rmv (upd (upd (upd H1 e' (.ext (Q5 C none e'))) e' (.ext (Q5 C (some dx) e'))) dx (.ext (G5 (ns.zip is) dx))) e'=upd H1 dx (.ext (G5 (ns.zip is) dx)):=by
   funext b
   by_cases hb:b=e'
   ·rw [hb,a0n,p9 (Ne.symm hne),he']
   ·rw [a3C hb]
    by_cases hd:b=dx
    ·rw [hd,m8,m8]
    ·rw [p9 hd,p9 hd,p9 hb,p9 hb]
  rw [eH];exact k.ex x _ h1 α1 _ C (some dx) hex (e1.trans (Ext.new hn1)) (R1.new hn1) hns (.inr ⟨dx,rfl,R1.out hn1,R1.outP hn1,m8⟩)
end
end DL
namespace DL
open PySem PySem.Spec L2
def a1j(En:K4)(j:Nat):K4:={ nx:=fun δ h=>En.nx (δ.set j none) h,rt:=En.rt,bk:=fun δ h=>En.bk (δ.set j none) h,ct:=fun δ h=>En.ct (δ.set j none) h,ex:=En.ex }
def c0L(i:Nat)(g:V6)(fa:DA)(cn:Str)(j:Nat)(bh:DS):DS:=fun En δ h=>fa δ h fun ds h1=>g ds h1 (fun d h2=>En.nx (δ.set i (some d)) h2) (fun c fs h2=>c=cn/\bh (a1j En j) (δ.set j (some (.exc cn fs))) h2)
def c0l(g:V6)(fa:DA)(cn:Str)(j:Nat)(bh:DS):DS:=fun En δ h=>fa δ h fun ds h1=>g ds h1 (fun _ h2=>En.nx δ h2) (fun c fs h2=>c=cn/\bh (a1j En j) (δ.set j (some (.exc cn fs))) h2)
theorem RelS.unset{K:KP}{α:List Addr}{H:Hp}{δ:Sl}{σ:L2.St}(r:RelS K α H δ σ)(j:Nat):RelS K α H (δ.set j none) (σ.set j none):=by
 refine ⟨by simp [r.len],fun i d q=>?_⟩
 by_cases z:j=i
 ·subst z
  have hi:j < δ.length:=by
   have:=(List.getElem?_eq_some_iff.mp q).1
   simpa using this
  rw [List.getElem?_set_self hi] at q;cases q
 ·rw [List.getElem?_set_ne z] at q;obtain ⟨w,h1,h2⟩:=r.get i d q;exact ⟨w,by rw [List.getElem?_set_ne z];exact h1,h2⟩
structure a1J(K:PySem.W.Frag)(mg:Str->Option Value)(cx cn:Str):Prop where
 ex:∃ CB,mg cx=some (.ref CB)/\∀ C,PySem.W.nsIn K mainGlobals cn=some (some (.ref C))->PySem.W.exmOne K (.ref C) (.ref CB)=some true
section
variable {K:PySem.W.Frag} {Ex:XK} {π α:List Addr} {H:Hp} {δ:Sl} {σ:L2.St} {h:Hh} {En:K4} {F:M9} {CB:Addr} {cn:Str} {j:Nat} {bh:DS}
theorem a2K(hex:∀ C,PySem.W.nsIn K mainGlobals cn=some (some (.ref C))->PySem.W.exmOne K (.ref C) (.ref CB)=some true)(S:RelS ⟨K,π⟩ α H δ σ)(k:EndsOk ⟨K,π⟩ Ex α H En F) :
  ∀ c fs h2 α2 H2 C dx,(c=cn/\bh (a1j En j) (δ.set j (some (.exc cn fs))) h2)->Ext α H α2 H2->HRel ⟨K,π⟩ α2 H2 h2->PySem.W.nsIn K mainGlobals c=some (some (.ref C))->XQ ⟨K,π⟩ α2 H2 dx fs ->
   ∃ C' d,Value.ref C = .ref C'/\dx=d/\PySem.W.exmOne K (.ref C) (.ref CB)=some true/\∀ a,H2 a=none->LS K Ex bh { nx:=fun σ' H''=>F.nx (σ'.set j none) H'',rt:=F.rt,bk:=fun σ' H''=>F.bk (σ'.set j none) H'',ct:=fun σ' H''=>F.ct (σ'.set j none) H'' } (σ.set j (some (.ref a))) (upd H2 a (.ext (Y6 C' d a))):=by
 rintro c fs h2 α2 H2 C dx ⟨rfl,b⟩ e2 R2 hns hve
 refine ⟨C,dx,rfl,rfl,hex C hns,fun a ha=>?_⟩;have e3:Ext α2 H2 α2 (upd H2 a (.ext (Y6 C dx a))):=Ext.new ha;have k2:=k.mono (e2.trans e3);refine ⟨π,α2,_,h2,a1j En j,R2.new ha,((S.mono (e2.trans e3)).set j (.exc hns ⟨R2.out ha,R2.outP ha,m8⟩ (hve.map fun _ _ z=>z.mono e3))),b,⟨fun δ' h' α' H' σ' x y z w=>?_,k2.rt,fun δ' h' α' H' σ' x y z w=>?_,fun δ' h' α' H' σ' x y z w=>?_,k2.ex⟩⟩
 ·exact k2.nx _ h' α' H' _ x y z (w.unset j)
 ·exact k2.bk _ h' α' H' _ x y z (w.unset j)
 ·exact k2.ct _ h' α' H' _ x y z (w.unset j)
end
section
variable {X:Cx} {k m:Nat} {ps:List Str} {g:V6} {x cx cn n:Str} {p pos cpos cp hpos tpos:Pos} {e:Expr} {es:List Expr} {l:Nat} {fa:DA} {b₀:Stmt} {suite:List Stmt} {bh:DS} {j:Nat}
end
end DL
namespace L2
open PySem PySem.Spec PyProof.Rows DL
structure XIs(K:PySem.W.Frag)(C:Addr):Prop where
 cls:∃ nm q N bs bm sn sub ab col dd k0 k1 k2 k3 k5,K.lookup C=some (excClassObj nm q C N bs bm true sn sub ab col dd k0 k1 k2 k3 k5 "ValueError.__new__")/\PySem.W.tailIn K bmV bm=true
 ga:PySem.W.findIn K (.ref C) "__getattribute__" = some (some (.builtin "BaseException.__getattribute__"))
 gg:PySem.W.findIn K (.ref C) "__getattr__" = some none
 cl:PySem.W.findIn K (.ref C) "__class__" = some (some (.builtin "object.__class__"))
 cg:PySem.W.specialIn K (.builtin "object.__class__") "__get__" = some (some (.builtin "getset_descriptor.__get__"))
 ct:PySem.W.takesIn K (.builtin "object.__class__")=some true
 mo:PySem.W.mroIn K C (.type "object")=some true
section
variable {K:PySem.W.Frag} {C f x:Addr} {ox:Obj} {od:Option Obj}
theorem XCls.is(c:XCls K C f):XIs K C:=by
 obtain ⟨nm,q,N,bs,bm,sn,sub,ab,col,dd,k0,k1,k2,k3,k5,lC,hT,_⟩:=c.cls;exact ⟨⟨nm,q,N,bs,bm,sn,sub,ab,col,dd,k0,k1,k2,k3,k5,lC,hT⟩,c.ga,c.gg,c.cl,c.cg,c.ct,c.mo⟩
theorem XIs.cls_in(c:XIs K C):∃ cd,PySem.W.clsIn K C=some cd/\cd.hasDict=true:=by
 obtain ⟨nm,q,N,bs,bm,sn,sub,ab,col,dd,k0,k1,k2,k3,k5,lC,_⟩:=c.cls;exact ⟨_,by unfold PySem.W.clsIn;rw [lC],rfl⟩
theorem a0E{name:Str}{a g:Value}(hc:(PySem.W.clsIn K C).isSome=true)(ha:PySem.W.findIn K (.ref C) name=some (some a))(hg:PySem.W.specialIn K a "__get__" = some (some g))(ht:PySem.W.takesIn K a=some true):PySem.W.findObj K C od name=some (.bind g a):=by
 obtain ⟨cd,hc⟩:=Option.isSome_iff_exists.mp hc;unfold PySem.W.findObj;rw [hc,Option.bind_some,ha,Option.bind_some]
 simp [hg,ht]
theorem a2U(c:XIs K C):PySem.W.KitX K (.ref x) (.ref C) (fun h=>PySem.W.InstAt h x ox C od) where
 ty:=fun _ _ _ I=>I.type
 it:=fun _ _ X _=>by
  obtain ⟨nm,q,N,bs,bm,sn,sub,ab,col,dd,k0,k1,k2,k3,k5,lC,_⟩:=c.cls;intro A' Q' E' s' k q;unfold isType loadHead;exact wpAny_bind (wpAny_loadPart (k _ _ (X _ _ lC)) (wpAny_pure q))
 ne:=fun h tp dd its n sl X htp=>by
  obtain ⟨nm,q,N,bs,bm,sn,sub,ab,col,dd,k0,k1,k2,k3,k5,lC,_⟩:=c.cls;refine Bool.eq_false_iff.mpr fun q=>?_;have e:C=tp:=Value.ref.inj (beq_iff_eq.mp q);subst e;have z:=(X _ _ lC).symm.trans htp;exact absurd (Value.type.inj (congrArg Obj.cls (Option.some.inj z))) (by decide)
 ca:=fun {prog w A E Q s} X I k=>by
  obtain ⟨nm,q,N,bs,bm,sn,sub,ab,col,dd,k0,k1,k2,k3,k5,lC,hT⟩:=c.cls;obtain ⟨cd,hcd,_⟩:=c.cls_in;obtain ⟨hp,g,d,t,os⟩:=s;exact a6v X (X _ _ lC) (PySem.W.tail_of_in X hT) c.ga c.gg I (a0E (by rw [hcd];rfl) c.cl c.cg c.ct) c.mo k
end
theorem a7c{P:Program}{w:World}{H:Hp}{h:Heap}{a C d:Addr}{fs:List (Str×Int)}(hok:HOk P w H h)(ha:H a=some (.ext (Y6 C (some d) a)))(hd:H d=some (.ext (G5 fs d))) :
  ∃ ox od,PySem.W.InstAt h a ox C (some od)/\∀ name,∃ r,PySem.W.lookIn name od=some r/\RelO ((fs.lookup name).map V.int) r:=by
 obtain ⟨⟨o,vs,z1,z2,z3,z4⟩,_⟩:=hok _ _ ha;obtain ⟨⟨mA,hns,_,hr⟩,_⟩:=hok _ _ hd;obtain ⟨od,ho,hl⟩:=a0R hns;refine ⟨o,od,⟨z1,z2,?_,by rw [z3];exact ho⟩,fun name=>⟨mA name,hl name,hr name⟩⟩;unfold PySem.W.notCls;rw [z4]
theorem a4I{P:Program}{w:World}{H:Hp}{h:Heap}{a C:Addr}{d:Option Addr}(hok:HOk P w H h)(ha:H a=some (.ext (Y6 C d a)))(hd:∀ d',d=some d'->∃ fs,H d'=some (.ext (G5 fs d'))):∃ ox od,PySem.W.InstAt h a ox C od:=by
 cases d with
 |none =>
  obtain ⟨⟨o,vs,z1,z2,z3,z4⟩,_⟩:=hok _ _ ha;refine ⟨o,none,z1,z2,?_,by rw [z3];trivial⟩;unfold PySem.W.notCls;rw [z4]
 |some d =>
  obtain ⟨fs,hd⟩:=hd d rfl;obtain ⟨ox,od,J,_⟩:=a7c hok ha hd;exact ⟨ox,some od,J⟩
section
variable {X:Cx}
theorem a1I:CallR X (.builtin "isinstance") (fun xs H Q=>∃ a d C v u b,xs=[.ref a,v]/\H a=some (.ext (Y6 C d a))/\(∀ d',d=some d'->∃ fs,H d'=some (.ext (G5 fs d')))/\XIs X.K C/\PySem.W.kitOne X.K (.ref C) u=some b/\(∀ u',RelV v u'->u'=u)/\Q (.bl b) H):=by
 intro pins s σ H xs us Q I r h;obtain ⟨a,d,C,v,u,b,rfl,ha,hd,c,e,hu,q⟩:=h;obtain ⟨u1,u2,rfl,ru,rw'⟩:=a2s r;cases ru
 obtain rfl:=hu _ rw'
 obtain ⟨ox,od,J⟩:=a4I I.hok ha hd;exact PySem.W.kia_one (a2U c) I.kIn J e (fun z=>nomatch z) fun tk=>⟨.bl b,H,I.tok _,rfl,q⟩
def tXA(K:PySem.W.Frag)(te:TE)(name:Str):TE:=fun σ H Q=>te σ H fun x H1=>∃ a d C f fs i,x = .ref a/\H1 a=some (.ext (Y6 C (some d) a))/\H1 d=some (.ext (G5 fs d))/\XCls K C f/\a2f K C name/\fs.lookup name=some i/\Q (.int i) H1
theorem b8u{e:Expr}{te:TE}{name:Str}{pos:Pos}(he:PE X e te)(hb:attributeBase e name X.env (eval e X.env)=eval e X.env):PE X (.Attribute e name pos) (tXA X.K te name):=by
 intro pins s σ H Q I h;refine a9Y hb (thn (he pins s σ H _ I h) fun u s1 z9=>?_);obtain ⟨x,H1,I1,rx,a,d,C,f,fs,i,ex,ha,hd,c,n,l,q⟩:=z9;subst ex
 obtain rfl:u=Value.ref a:=rx
 obtain ⟨ox,od,J,hl⟩:=a7c I1.hok ha hd;obtain ⟨r,h1,h2⟩:=hl name;rw [l] at h2;obtain ⟨nm,q',N,bs,bm,sn,sub,ab,col,dd,k0,k1,k2,k3,k5,lC,hT,_⟩:=c.cls;obtain ⟨cd,hcd,hdct⟩:=c.is.cls_in;have KX:=I1.kIn
 cases r with
 |none=>exact h2.elim
 |some v =>
  obtain ⟨tk,rfl⟩:=h2;obtain ⟨hp,g,dr,t,os⟩:=s1;exact b7c KX (KX _ _ lC) (PySem.W.tail_of_in KX hT) c.ga c.gg J (PySem.W.findObj_own (by show Option.any _ _=true;rw [hcd];exact hdct) n rfl h1) rfl ⟨.int i,H1,I1.tok _,⟨tk,rfl⟩,q⟩
end
end L2
namespace DL
open PySem PySem.Spec L2
theorem XQ.dict{K:KP}{α:List Addr}{H:Hp}{dx:Option Addr}{fs:List (Str×Int)}(h:XQ K α H dx fs):∀ d',dx=some d'->∃ fs,H d'=some (.ext (G5 fs d')):=by
 rintro d' rfl
 rcases h with ⟨h,_⟩ | ⟨d,e,v⟩
 ·cases h
 ·cases e;exact ⟨fs,v.2.2⟩
def c0X(cn:Str)(b:Bool)(fa:DE):DE:=fun δ h Q=>fa δ h fun d h1=>match d with | .exc c _=>c=cn/\Q (.bl b) h1 | _=>False
def dXA(cn name:Str)(fa:DE):DE:=fun δ h Q=>fa δ h fun d h1=>match d with | .exc c fs=>c=cn/\(match fs.lookup name with | some i=>Q (.int i) h1 | none=>False) | _=>False
structure L8(K:PySem.W.Frag)(cn:Str):Prop where
 ex:∃ C,PySem.W.nsIn K mainGlobals cn=some (some (.ref C))/\XIs K C
structure b3d(K:PySem.W.Frag)(cn name:Str):Prop where
 ex:∃ C f,PySem.W.nsIn K mainGlobals cn=some (some (.ref C))/\XCls K C f/\a2f K C name
structure IsX(K:PySem.W.Frag)(cn:Str)(u:Value)(b:Bool):Prop where
 ex:∃ C,PySem.W.nsIn K mainGlobals cn=some (some (.ref C))/\PySem.W.kitOne K (.ref C) u=some b
section
variable {X:Cx} {cn:Str} {b:Bool} {a t:Expr} {fa:DE} {p pos:Pos} {u:Value} {v:V}
theorem Z0:bootBuiltins "ValueError" = some (.type "ValueError"):=by kernel_rfl
theorem b8B{name:Str}(c:b3d X.K cn name)(ha:SE X a fa)(hb:attributeBase a name X.env (eval a X.env)=eval a X.env:=by rfl):SE X (.Attribute a name pos) (dXA cn name fa):=PE.imp (b8u ha hb) fun σ H Q zz0=>by
 obtain ⟨π,α,δ,h,Q',R,S,f,k⟩:=zz0;obtain ⟨C,f',hns,cl,na⟩:=c.ex;refine ⟨π,α,δ,h,_,R,S,f,fun d h1 α1 H1 v1 f1 e1 R1 q1=>?_⟩
 cases q1 with
 |@exc a' C2 dx cn2 fs n2 va vd =>
  obtain ⟨rfl,f1⟩:=f1;rw [hns] at n2;cases n2
  cases l:fs.lookup name with
  |none=>rw [l] at f1;exact f1.elim
  |some i =>
   rw [l] at f1
   rcases vd with ⟨_,rfl⟩ | ⟨dx,rfl,vd⟩
   ·cases l
   exact ⟨a',dx,C,f',fs,i,rfl,va.2.2,vd.2.2,cl,na,l,k _ h1 α1 H1 _ f1 e1 R1 (.int _)⟩
 |_=>exact f1.elim
end
end DL
namespace L2
open PySem PySem.Spec PyProof.Rows
open Sem (wp)
section
variable {prog:Program} {w:World} {A:Around} {E:Value->Shared->Prop} {h:Heap} {g:Array GenState} {d:Drawn} {t:Nat} {os:OsState}
variable {nm q:Str} {C N:Addr} {bs bm bmB:List Value} {hdct:Bool} {sn:List Str} {sub:List Value} {ab:Bool} {col:Option Bool} {dd:Option Addr} {k0 k1 k2 k3 k5:Option Value} {B Bn newId nid initId inN:String} {bmN:List Value}
theorem a3J(Fn:ExcBaseFacts Bn newId inN bmN)(hBn:bmB.contains (.type Bn)=true)(F:ExcBaseFacts B nid initId bmB)(T:OwnTail h bmB bm){mN:Str->Option Value}{rest:List Value}{Q:Fin->Shared->Prop}
  (hC:h.get? C=some (excClassObj nm q C N bs bm hdct sn sub ab col dd k0 k1 k2 k3 k5 newId)) (hn:h.Ns N mN) (hi:mN "__init__" = none)
  (hq:∀ h' e,Heap.MadeExcOf h h' e (.ref C) rest->h.objs.size <= e->Q (.done (.ret (.ref e))) ⟨h',g,d,t,os⟩) (hrest:rest.length <= sizeLine:=by size_fits) :
  wpAny (model prog w) A (Builtin.«type.__call__» ⟨.ref C :: rest,[]⟩) Q E ⟨h,g,d,t,os⟩:=by
 repeat (first | with_reducible refine wpAny_loadPart_at hC ?_ | with_reducible refine wpAny_madeBy_exc hC ?_ | wp_step)
 refine codeAny_call_builtin_code (Code.quiet_builtin _ Fn.quiet) (wpAny_check_new_subU Fn hBn T hC ?_);refine codeAny_exc_new_subU Fn hBn F T hC ?_ hrest;show wpAny _ _ _ _ _ _;have up:∀ b o,h.get? b=some o->((h.push { cls:=.type "tuple",data:=.seq rest.toArray }).push { cls:=.ref C,data:=.fields #[.ref h.objs.size,.none,.none,.none,.bool false,.none] }).get? b=some o:=fun b o e=>Heap.get?_push_of_some _ (Heap.get?_push_of_some _ e);have hC₁:=up _ _ hC
 have hn₁:((h.push { cls:=.type "tuple",data:=.seq rest.toArray }).push { cls:=.ref C,data:=.fields #[.ref h.objs.size,.none,.none,.none,.bool false,.none] }).Ns N mN :=
  let ⟨o,es,ep,e,r⟩:=hn;⟨o,es,ep,up _ _ e,r⟩
 have hget:((h.push { cls:=.type "tuple",data:=.seq rest.toArray }).push
   { cls:=.ref C,data:=.fields #[.ref h.objs.size,.none,.none,.none,.bool false,.none] }).get? (h.objs.size + 1)=some
   { cls:=.ref C,data:=.fields #[.ref h.objs.size,.none,.none,.none,.bool false,.none] }:=by heap_get
 have hcC:(Value.ref C :: bm).contains (.ref C)=true:=by simp
 have T₁:=T.keeps up;unfold isInstance
 repeat (first | with_reducible refine wpAny_loadPart_at hget ?_ | (with_reducible refine wpAny_isSubtype_exc hC₁ ?_;rw [hcC]) | wp_step)
 show wpAny _ _ (typeLookup (.ref C) _) _ _ _;refine wpAny_typeLookup_tail hC₁ hn₁ T₁ F.mroIs F.init.lookup ?_;rw [hi];refine wpAny_holding (wpAny_bind (wpAny_of_eq (F.init.bind _) ?_));refine wpAny_bind (wpAny_call (codeAny_call_builtin F.init.plain F.initEntry (wpAny_check_init_subU F T₁ hC₁ hget rfl ?_)))
 wp_walk
 refine hq _ (h.objs.size + 1) ⟨fun b o hb=>?_,Heap.get?_none_of_le (Nat.le_succ _),h.objs.size + 2,?_,Heap.get?_none_of_le (by omega),?_⟩ (Nat.le_succ _)
 ·rw [Heap.get?_update_other _ _ (Nat.ne_of_gt (Nat.lt_succ_of_lt (Heap.lt_size hb)))];exact Heap.get?_push_of_some _ (up _ _ hb)
 ·rw [Heap.get?_update_self _ (Heap.get?_push_of_some _ hget) rfl];simp only [Heap.size_push];rfl
 ·rw [Heap.get?_update_other _ _ (show h.objs.size + 1 ≠ h.objs.size + 2 by omega)];exact Heap.get?_push_at (by simp only [Heap.size_push]) rfl
theorem b7I(Fn:ExcBaseFacts Bn newId inN bmN)(hBn:bmB.contains (.type Bn)=true)(F:ExcBaseFacts B nid initId bmB)(T:OwnTail h bmB bm){mN:Str->Option Value}{rest:List Value}{Q:Value->Shared->Prop}
  (hC:h.get? C=some (excClassObj nm q C N bs bm hdct sn sub ab col dd k0 k1 k2 k3 k5 newId)) (hn:h.Ns N mN) (hi:mN "__init__" = none)
  (hq:∀ h' e,Heap.MadeExcOf h h' e (.ref C) rest->h.objs.size <= e->Q (.ref e) ⟨h',g,d,t,os⟩) (hrest:rest.length <= sizeLine:=by size_fits) :
  wpAny (model prog w) A (call (.ref C) rest) Q E ⟨h,g,d,t,os⟩:=by
 have f1:=tc_lookup;have f2:=tc_bind (.ref C);have hT:(⟨h,g,d,t,os⟩:Shared).TypeIs (.ref C) "type":=⟨_,hC,rfl⟩
 refine wpAny_call (codeAny_of_tree ?_);show wpAny _ _ (callAny (.ref C) _) _ _ _
 repeat (any_goals (first | assumption | with_reducible refine wpAny_loadPart_at hC ?_ | wp_step))
 refine ⟨rfl,?_⟩;refine codeAny_call_builtin_at (Code.quiet_builtin _ (by decide +kernel)) entry_typeCall (wpAny_check_type_call_sub hC (a3J (hrest:=hrest) Fn hBn F T hC hn hi fun h' e hm he=>?_));exact hq h' e hm he
end
theorem a3h{K:PySem.W.Frag}{h:Heap}{N:Addr}{mg:Str->Option Value}{n:Str}(X:K.In h)(G:h.Ns N mg)(e:PySem.W.nsIn K N n=some none):mg n=none:=by
 obtain ⟨o,es,ep,ho,hd,_,hf⟩:=G;unfold PySem.W.nsIn at e
 split at e
 ·rename_i c d es' n' sl q
  have:=X _ _ q
  rw [ho] at this;cases this;cases hd
  split at e
  ·cases e
  ·rename_i he;rw [<- hf];unfold nsFind findBy;rw [<- Array.find?_toList,he];rfl
 ·cases e
structure a9e(K:PySem.W.Frag)(C:Addr):Prop where
 cls:∃ nm q N bs bm sn sub ab col dd k0 k1 k2 k3 k5,K.lookup C=some (excClassObj nm q C N bs bm true sn sub ab col dd k0 k1 k2 k3 k5 "ValueError.__new__")/\PySem.W.tailIn K bmV bm=true/\PySem.W.nsOkIn K N=true/\PySem.W.nsIn K N "__init__" = some none
def b0y(C:Addr)(E:XK)(t:TA):TS:=fun _ σ H=>t σ H fun vs H1=>vs.length <= 100/\E (.ref C) none H1
section
variable {X:Cx} {E:XK} {k:Nat} {C:Addr} {x:Str} {p pos cpos:Pos} {e:Expr} {t:TA}
theorem a5M(c:a9e X.K C)(hr:Room k X.A)(hg:Gl X x)(hm:X.mg x=some (.ref C))
  (ha:PA (X.wishX E) [e] t) (hdb:(x == ("__debug__":Str))=false:=by decide) (he:starEach [e] X.env=(false,eval e X.env) :: starEach [] X.env:=by rfl) (hpl:(backTo cpos (starEach [e] X.env)).any (·.1)=false:=by rfl) :
  PS (X.wishX E) (.Raise (some (.Call (.Name x p) [e] [] cpos)) none pos) (b0y C E t):=by
 intro pins s σ H D I h;obtain ⟨nm,q,N,bs,bm,sn,sub,ab,col,dd,k0,k1,k2,k3,k5,lC,hT,hok,hi⟩:=c.cls;have hbase:bm.contains (.type "BaseException")=true:=(PySem.W.tail_of_in I.kIn hT).hasType (by decide +kernel);refine a0i (C:=C) (nm:=nm) (q:=q) (N:=N) (bs:=bs) (bm:=bm) (hdct:=true) (sn:=sn) (sub:=sub) (ab:=ab) (col:=col) (dd:=dd) (k0:=k0) (k1:=k1) (k2:=k2) (k3:=k3) (k5:=k5) (newId:= "ValueError.__new__") hbase hr.hd hpl ?_;refine L4 (X:=X.wishX E) I hg hm ⟨rfl,?_⟩ hdb;have hA:=ha cpos pins s σ H _ I h;rw [he] at hA ⊢;refine Calls.evalArgs_plain (thn hA fun us s1 ⟨vs,H1,I1,r1,q1⟩=>⟨rfl,I1.kIn _ _ lC,?_⟩);have KX:X.K.In s1.heap:=I1.kIn;have T:=PySem.W.tail_of_in KX hT;have Ns:s1.heap.Ns N (s1.heap.nsMap N):=.of_isNs (PySem.W.isNs_of_in KX hok);have hi':s1.heap.nsMap N "__init__" = none:=a3h KX Ns hi;obtain ⟨hp,g,d,tk,os⟩:=s1;have FV:=_root_.PySem.F.excBase_ValueError;refine b7I (mN:=hp.nsMap N) FV (by decide +kernel) FV T (KX _ _ lC) Ns hi' (fun h' e' hm' hle=>?_) (by rw [<- r1.length];exact Nat.le_trans q1.1 (by decide));obtain ⟨t0,ht,_⟩:=hm'.there;refine ⟨e',none,.ref t0,#[],rfl,hm'.keeps _ _ (KX _ _ lC),ht,?_⟩;have I2:=I1.kept (t':=tk) (fun b o e=>hm'.keeps b o e);exact ⟨e',.ref C,none,none,.none,σ,H1,rfl,I2.unwishX.unpin,⟨⟨_,_,ht,rfl,rfl,rfl,rfl⟩,(fun t h=>nomatch h)⟩,(I1.unwishX.away hle).unpin,I1.hok.fresh hle,(fun t h=>nomatch h),.inl rfl,q1.2⟩
end
end L2
namespace DL
open PySem PySem.Spec L2
structure a1H(K:PySem.W.Frag)(mg:Str->Option Value)(x:Str):Prop where
 ex:∃ C,mg x=some (.ref C)/\PySem.W.nsIn K mainGlobals x=some (some (.ref C))/\a9e K C
def a5h(cn:Str)(js:List Nat):DS:=fun En δ h=>(∀ j ∈ js,∃ a:Int,δ[j]?=some (some (.int a))/\a.natAbs.log2 < 1920)/\En.ex cn [] h
section
variable {X:Cx} {E:XK} {k n:Nat} {x:Str} {p pos p2 cpos:Pos} {e e2:Expr} {rest:List Expr} {t:L2.St->Hp->Prop} {js:List Nat}
theorem a8L(c:a1H X.K X.mg x)(hr:Room k X.A)(hg:Gl X x)(hj:PJ (X.wishX E) (e :: e2 :: rest) n t)(hjs:∀ σ H,(∀ j ∈ js,∃ a:Int,σ[j]?=some (some (V.int a))/\a.natAbs.log2 < 1920)->t σ H)(hn:n <= 1000000:=by decide)(hdb:(x == ("__debug__":Str))=false:=by decide)
  (he:starEach [.JoinedStr (e :: e2 :: rest) p2] X.env=(false,eval (.JoinedStr (e :: e2 :: rest) p2) X.env) :: starEach [] X.env:=by rfl) (hpl:(backTo cpos (starEach [.JoinedStr (e :: e2 :: rest) p2] X.env)).any (·.1)=false:=by rfl) :
  SS (X.wishX E) (.Raise (some (.Call (.Name x p) [.JoinedStr (e :: e2 :: rest) p2] [] cpos)) none pos) (a5h x js):=by
 obtain ⟨C,hbd,hns,cl⟩:=c.ex;refine PS.imp (a5M (X:=X) (E:=E) cl hr hg hbd (A4 (a1k hj hn) N7 he) hdb he hpl) fun F' σ H zz0=>?_;obtain ⟨π,α,δ,h,En,R,S,q,k⟩:=zz0;refine ⟨hjs σ H fun j hj'=>?_,fun txt=>⟨(show 1 <= 100 by decide),k.ex x [] h α H C none q.2 (Ext.refl ..) R hns (.inl ⟨rfl,rfl⟩)⟩⟩;obtain ⟨a,ha,hb⟩:=q.1 j hj';obtain ⟨v,h1,h2⟩:=S.get j _ ha;cases h2;exact ⟨a,h1,hb⟩
end
end DL
namespace L2
open PySem PySem.Spec PyProof.Rows DL
section
variable {X:Cx}
theorem a1P:CallR X (.builtin "isinstance") (fun xs H Q=>∃ a d C tp vs b,xs=[.ref a,.ref tp]/\H a=some (.ext (Y6 C d a))/\(∀ d',d=some d'->∃ fs,H d'=some (.ext (G5 fs d')))/\XIs X.K C/\H tp=some (.tup vs)/\(∀ us,Vals vs us->PySem.W.kitAny X.K (.ref C) us=some b)/\Q (.bl b) H):=by
 intro pins s σ H xs us Q I r h;obtain ⟨a,d,C,tp,vs,b,rfl,ha,hd,c,ht,e,q⟩:=h;obtain ⟨u1,u2,rfl,ru,rw'⟩:=a2s r;cases ru
 cases rw'
 obtain ⟨ox,od,J⟩:=a4I I.hok ha hd;obtain ⟨_,its,rv,⟨o,ho,hc,n,hdat⟩⟩:=I.hok _ _ ht;obtain ⟨ocls,odict,odata,oslots⟩:=o
 simp only at hc hdat
 subst hc;subst hdat;exact PySem.W.kia_tup (a2U c) I.kIn J ho (e its rv) (fun z=>nomatch z) fun tk=>⟨.bl b,H,I.tok _,rfl,q⟩
end
end L2
namespace DL
open PySem PySem.Spec L2
section
variable {X:Cx} {cn:Str} {a:Expr} {fa:DE} {p pos:Pos} {x1 x2 x3:Str} {p1 p2 p3 tpos:Pos} {ctx:Nat}
end
def b9f(fo:DE)(fs:DA):DE:=fun δ h Q=>fo δ h fun d h1=>match d with
 |.ref i=>(match h1[i]? with
  |some (.lst _)=>fs δ h1 fun ds h2=>(match ds,h2[i]? with
   |[.int n,y],some (.lst xs)=>(0 <= n/\n.toNat <= xs.length/\xs.length < 16777216)/\Q .non (h2.set i (.lst (xs.take n.toNat ++ y :: xs.drop n.toNat)))
   |_,_=>False)
  |_=>False)
 |_=>False
section
variable {X:Cx} {o e e2:Expr} {fo:DE} {cpos apos:Pos}
end
end DL
namespace L2
open PySem PySem.Spec PyProof.Rows
theorem a3m:typeLookup (.type "list_reverseiterator") "__len__" = pure none:=by rw [typeLookup_type,builtinLookup_eq_fast];kernel_rfl
theorem a6u:typeLookup (.type "list_reverseiterator") "__length_hint__" = pure (some (.builtin "list_reverseiterator.__length_hint__")):=by rw [typeLookup_type,builtinLookup_eq_fast];kernel_rfl
section
variable {prog:Program} {w:World} {A:Around} {E:Value->Shared->Prop} {s:Shared} {R:Result->Shared->Prop} {I l:Addr} {items:Array Value}
theorem a6z{Q:Bool->Shared->Prop}(hT:s.TypeIs (.ref I) "list_reverseiterator")(h:Q false s):wpAny (model prog w) A (Builtin.List.listLengthHint (.ref I)) Q E s:=by
 unfold Builtin.List.listLengthHint;refine wpAny_bind (wpAny_specialOf hT a3m ?_);show wpAny _ _ (specialOf (Value.ref I) (Str.ofString "__length_hint__") >>= _) _ _ _;refine wpAny_bind (wpAny_specialOf hT a6u ?_);generalize hid:("list_reverseiterator.__length_hint__":String)=id0
 wp_delta
 rw [show splitId id0=some ("list_reverseiterator","__length_hint__") from by subst hid;decide +kernel];subst hid;refine wpAny_bind (wpAny_isInstance (T:= "list_reverseiterator") (b:=true) hT (by rw [isSubtype_type];kernel_rfl) ?_);refine wpAny_ite_split (fun hab=>absurd hab (by decide)) (fun _=>?_);refine wpAny_ite_split (fun _=>?_) (fun hab=>absurd (by decide +kernel) hab);refine wpAny_ite_split (fun hab=>absurd hab (by decide +kernel)) (fun _=>?_);exact wpAny_pure h
theorem a3I(hh:A.handled=none)(S:Addr)(hne:l ≠ I)(hSI:S ≠ I)(hSl:S ≠ l)(res:Value)(c₀:Nat)(hit:s.heap.IsRevIter I l ((items.size:Int) - 1))(hl:s.heap.IsList l items)
  (hS:s.heap.get? S=some { cls:=.type "list",data:=.seq #[] c₀ }) (hn:items.size <= sizeLine)
  (hR:∀ s' acc' c',Moved [S,I] (fun a b=>b=a) s s'->s'.heap.get? S=some { cls:=.type "list",dict:=none,data:=.seq acc' c',slots:=#[] }->ItemsOf (fun i v=>items[items.size - 1 - i]?=some v) acc' items.size->R (.ok (.ret res)) s') :
  wpAny (model prog w) A.in1 (Builtin.List.listExtendWith (.ref S) (.ref I) res)
   (fun fin s'=>match fin with | .done f=>R (.ok f) s' | .again c'=>c'.quiet=true/\codeAny (model prog w) A c' R s') (fun e s'=>R (.error e) s') s:=by
 unfold Builtin.List.listExtendWith;refine wpAny_bind (wpAny_typeOf hit.typeIs ?_);have h1:Builtin.List.listSameRef (.ref S) (.ref I)=false:=by simp [Builtin.List.listSameRef,hSI]
 have h2:(Value.type "list_reverseiterator" == Value.type "list")=false:=by decide
 have h3:(Value.type "list_reverseiterator" == Value.type "tuple")=false:=by decide
 simp only [h1,h2,h3,Bool.or_false,Bool.false_eq_true,if_false];refine wpAny_bind (wpAny_pyIter_revIter hit ?_);refine wpAny_bind (wpAny_holding (a6z hit.typeIs ?_));refine wpAny_ite_split (fun hab=>absurd hab (by decide +kernel)) (fun _=>?_);have hSf:S ∉ [I,l]:=by simp [hSI,hSl]
 refine wpAny_pure ⟨plainId_quiet PySem.F.plain_extend_loop _,codeAny_extend_loopS (Walks.listRev (prog:=prog) (w:=w) (A:=A.in1) hh I l hne items).toS hn S hSf res items.size 0 s #[] c₀ rfl (Nat.zero_le _) ⟨Nat.zero_le _,by simpa using hit,hl⟩ hS (ItemsOf.nil _) fun s' acc' c' hm hS' hacc=>hR s' acc' c' hm hS' hacc⟩
theorem a6y(hh:A.handled=none)(S:Addr)(hne:l ≠ I)(hSI:S ≠ I)(hSl:S ≠ l)(hit:s.heap.IsRevIter I l ((items.size:Int) - 1))(hl:s.heap.IsList l items)
  (hS:s.heap.get? S=some { cls:=.type "list",data:=.seq #[] }) (hn:items.size <= sizeLine)
  (hR:∀ s' acc' c',Moved [S,I] (fun a b=>b=a) s s'->s'.heap.get? S=some { cls:=.type "list",dict:=none,data:=.seq acc' c',slots:=#[] }->ItemsOf (fun i v=>items[items.size - 1 - i]?=some v) acc' items.size->R (.ok (.ret .none)) s') :
  wpAny (model prog w) A.in1 (Builtin.«list.__init__» ⟨[.ref S,.ref I],[]⟩)
   (fun fin s'=>match fin with | .done f=>R (.ok f) s' | .again c'=>c'.quiet=true/\codeAny (model prog w) A c' R s') (fun e s'=>R (.error e) s') s:=by
 show wpAny _ A.in1 (do let old <- Builtin.List.listItems (.ref S);Builtin.List.listUpdate (.ref S) (fun _=>#[]);letGo old.toList.reverse;Builtin.List.listExtendWith (.ref S) (.ref I) .none) _ _ s;refine wpAny_bind ?_;unfold Builtin.List.listItems;refine wpAny_bind (wpAny_seqItems hS rfl (wpAny_pure ?_));show wpAny _ A.in1 (updateSeq S (fun _=>#[]) >>= fun _=>letGo (#[]:Array Value).toList.reverse >>= fun _=>Builtin.List.listExtendWith (.ref S) (.ref I) .none) _ _ s;refine wpAny_bind (wpAny_updateSeq hS rfl ?_);have hS₂:=Heap.get?_update_self (Obj.mapSeq (fun _=>(#[]:Array Value))) hS rfl
 have oth:∀ b o,b ≠ S->s.heap.get? b=some o->(s.heap.update S (Obj.mapSeq (fun _=>(#[]:Array Value)))).get? b=some o :=
  fun b o hb e=>(Heap.get?_update_other _ _ (Ne.symm hb)).trans e
 refine wpAny_bind (wpAny_letGo ?_);refine a3I (s:={ s with heap:=s.heap.update S (Obj.mapSeq (fun _=>(#[]:Array Value))) }) hh S hne hSI hSl .none _ (hit.at fun o e=>oth I o (Ne.symm hSI) e) (hl.at fun o e=>oth l o (Ne.symm hSl) e) hS₂ hn fun s' acc' c' hm hS' hacc=>?_;refine hR s' acc' c' ⟨fun b o hb e=>hm.heap b o hb (oth b o (fun z=>hb (by rw [z];exact List.mem_cons_self)) e),hm.gens,hm.drawn,hm.os,hm.toks⟩ hS' hacc
theorem a6F{Q:Value->Shared->Prop}(hh:A.handled=none)(hne:l ≠ I)(hit:s.heap.IsRevIter I l ((items.size:Int) - 1))(hl:s.heap.IsList l items)(hn:items.size <= sizeLine)
  (h:∀ h' tk (acc:Array Value) c,(∀ b o,b ≠ I->s.heap.get? b=some o->h'.get? b=some o)->h'.get? s.heap.objs.size=some { cls:=.type "list",dict:=none,data:=.seq acc c,slots:=#[] }->acc.toList=items.toList.reverse->Q (.ref s.heap.objs.size) { s with heap:=h',toks:=tk }) :
  wpAny (model prog w) A (call (.type "list") [.ref I]) Q E s:=by
 refine callType_codes (Q₁:=fun obj s₁=>obj = .ref s.heap.objs.size/\s₁={ s with heap:=s.heap.push { cls:=.type "list",data:=.seq #[] } }) PySem.F.called_list (PySem.F.typeCall_list_1 _) PySem.F.entry_list_init
  (code_list_new _ ⟨rfl,rfl⟩) fun obj s₁ h₁=>?_
 obtain ⟨rfl,rfl⟩:=h₁;have hS:(s.heap.push { cls:=.type "list",data:=.seq #[] }).get? s.heap.objs.size=some { cls:=.type "list",data:=.seq #[] }:=Heap.get?_push_size _ rfl;have l1:I < s.heap.objs.size:=let ⟨_,e,_⟩:=hit;Heap.lt_size e
 have l2:l < s.heap.objs.size:=let ⟨_,e,_⟩:=hl;Heap.lt_size e
 refine ⟨⟨_,hS,rfl⟩,PySem.F.args_list_init_2 _ _,a6y (A:=A.in1) (s:={ s with heap:=s.heap.push { cls:=.type "list",data:=.seq #[] } }) hh s.heap.objs.size hne (Nat.ne_of_gt l1) (Nat.ne_of_gt l2) (hit.at fun o e=>Heap.get?_push_of_some _ e) (hl.push _) hS hn fun s' acc c' hm hS' hacc=>⟨rfl,?_⟩⟩;obtain ⟨h',g',d',tk',os'⟩:=s';have eg:g'=s.gens:=hm.gens;have ed:d'=s.drawn:=hm.drawn;have eo:os'=s.os:=hm.os;subst eg;subst ed;subst eo;refine h h' tk' acc c' (fun b o hb e=>hm.heap b o (by simp only [List.mem_cons,List.not_mem_nil,or_false,not_or];exact ⟨Nat.ne_of_lt (Heap.lt_size e),hb⟩) (Heap.get?_push_of_some _ e)) hS' ?_;refine List.ext_getElem (by simp [hacc.1]) fun i h1 h2=>?_;have hi:i < acc.size:=by simpa using h1
 have:=hacc.2 i acc[i] (Array.getElem?_eq_getElem hi)
 obtain ⟨z1,z2⟩:=Array.getElem?_eq_some_iff.mp this;rw [List.getElem_reverse]
 simp [z2]
end
def a8v(K:PySem.W.Frag)(t:TA):TE:=fun σ H Q=>t σ H fun vs H1=>∃ a us,vs=[.ref a]/\SqL K H1 a us/\∀ l,H1 l=none->Q (.ref l) (upd H1 l (.lst us.reverse))
theorem a2p:∀ {xs:List V} {us:List Value},Vals xs us->Vals xs.reverse us.reverse
 |_,_,.nil=>.nil
 |_,_,.cons h t=>by rw [List.reverse_cons,List.reverse_cons];exact (a2p t).append (.cons h .nil)
section
variable {X:Cx} {e:Expr} {t:TA} {p p2 pos pos2:Pos}
theorem a3u(hc:X.calm=true)(hg:Gl X "list")(hm:X.mg "list" = none)(hg2:Gl X "reversed")(hm2:X.mg "reversed" = none)(ha:PA X [e] t)(he:starEach [e] X.env=(false,eval e X.env) :: starEach [] X.env:=by rfl)
  (he2:starEach [.Call (.Name "reversed" p2) [e] [] pos2] X.env=(false,eval (.Call (.Name "reversed" p2) [e] [] pos2) X.env) :: starEach [] X.env:=by rfl) (hpl:(backTo pos2 (starEach [] X.env)).any (·.1)=false:=by rfl) (hpl2:(backTo pos (starEach [] X.env)).any (·.1)=false:=by rfl) :
  PE X (.Call (.Name "list" p) [.Call (.Name "reversed" p2) [e] [] pos2] [] pos) (a8v X.K t):=by
 intro pins s σ H Q I h;refine wpAny_Call_Name_kw (M1 I hg hm boot_list ?_ (by decide) (by decide));refine PyProof.Rows.callWith_type1 ?_ he2 hpl2;rw [he2];show wpAny _ _ (spliced ((false,eval (.Call (.Name "reversed" p2) [e] [] pos2) X.env) :: backTo pos (starEach [] X.env))) _ _ s;refine Calls.spliced_cons ?_;refine wpAny_Call_Name_kw (M1 I hg2 hm2 boot_reversed ?_ (by decide) (by decide));refine PyProof.Rows.callWith_type1 (thn (ha pos2 pins s σ H _ I h) fun us s1 ⟨vs,H1,I1,r1,q1⟩=>?_) he hpl;obtain ⟨a,xs,rfl,hq,q⟩:=q1;obtain ⟨u,rfl,rx⟩:=O8 r1;cases rx;obtain ⟨its,r,pl,hz⟩:=I1.list hq;refine call_reversed_list pl.isList ?_;refine Calls.spliced_nil ?_;have lt:a < s1.heap.objs.size:=let ⟨_,e,_⟩:=pl.isList;Heap.lt_size e
 refine a6F (s:={ s1 with heap:=s1.heap.push (revObj a ((its.toArray.size:Int) - 1)) }) (I1.ok.hd hc) (Nat.ne_of_lt lt) ⟨_,Heap.get?_push_size _ rfl,rfl,rfl⟩ (pl.isList.push _) (by rw [List.size_toArray,<- r.length];exact hz) fun h' tk acc c kp e ea=>?_;have eo:acc=(its.reverse).toArray:=by rw [<- ea]
 refine ⟨.ref (s1.heap.push (revObj a ((its.toArray.size:Int) - 1))).objs.size,_,I1.laid (t':=tk) (fun b o eb=>kp b o (Nat.ne_of_lt (Heap.lt_size eb)) (Heap.get?_push_of_some _ eb)) (by rw [Heap.size_push];exact Nat.le_succ _) (show ObjOk X.prog X.w _ h' _ (.lst xs.reverse) from ⟨by rw [List.length_reverse];exact hz,its.reverse,c,a2p r,by rw [<- eo];exact e⟩),rfl,q _ (I1.hok.fresh (by rw [Heap.size_push];exact Nat.le_succ _))⟩
end
end L2
namespace DL
open PySem PySem.Spec L2
def a3e(f:DA):DN:=fun δ h Q=>f δ h fun ds h1=>match ds with | [d]=>(match w6 h1 d with | some xs=>Q xs.reverse h1 | none=>False) | _=>False
section
variable {X:Cx} {e:Expr} {p p2 pos pos2:Pos} {n:Nat} {f:DA}
theorem a3o(hc:X.calm=true)(hg:Gl X "list")(hm:X.mg "list" = none)(hg2:Gl X "reversed")(hm2:X.mg "reversed" = none)(ha:SA X [e] n f)(he:starEach [e] X.env=(false,eval e X.env) :: starEach [] X.env:=by rfl)
  (he2:starEach [.Call (.Name "reversed" p2) [e] [] pos2] X.env=(false,eval (.Call (.Name "reversed" p2) [e] [] pos2) X.env) :: starEach [] X.env:=by rfl) (hpl:(backTo pos2 (starEach [] X.env)).any (·.1)=false:=by rfl) (hpl2:(backTo pos (starEach [] X.env)).any (·.1)=false:=by rfl) :
  SN X (.Call (.Name "list" p) [.Call (.Name "reversed" p2) [e] [] pos2] [] pos) (a3e f):=PE.imp (a3u hc hg hm hg2 hm2 ha he he2 hpl hpl2) fun σ H Q ⟨π,α,δ,h,Q',R,S,f,k⟩=>by
 refine ⟨π,α,δ,h,_,R,S,f,fun ds h1 α1 H1 vs f1 e1 R1 q1 l1=>?_⟩
 split at f1
 ·rename_i d;obtain ⟨v,rfl,rd⟩:=q1.inv1
  cases w:w6 h1 d with
  |none=>rw [w] at f1;exact f1.elim
  |some ys =>
   rw [w] at f1;obtain ⟨p,us,rfl,b,c⟩:=Z8 R1 rd w;exact ⟨p,us,rfl,b,fun l hl=>LN.last (h:=h) k f1 e1 R1 c.rev hl⟩
 ·exact f1.elim
end
end DL
namespace L2
open PySem PySem.Spec PyProof.Rows
section
variable {X:Cx} {st b₀:Stmt} {suite:List Stmt} {tb:M9->XK->St->Hp->Prop} {th:TS} {cx:Str} {CB:Addr} {cp hpos pos:Pos}
end
end L2
namespace DL
open PySem PySem.Spec L2
section
variable {X:Cx} {k m:Nat} {ps:List Str} {g:V6} {x cx cn:Str} {p pos cpos cp hpos tpos:Pos} {e:Expr} {es:List Expr} {l:Nat} {fa:DA} {b₀:Stmt} {suite:List Stmt} {bh:DS}
end
structure a6q(P:Program)(w:World)(K:PySem.W.Frag)(mg:Str->Option Value)(base:Heap)(k:Nat)(x:Str)(ps:List Str)(sp:Sp)(is:List Int):Prop where
 ex:∃ (f:Addr) (fd:FuncData) (ds:List Value),u7 P w K mg base (CXE P w) k f fd ps sp/\mg x=some (.ref f)/\PySem.W.keepIn K (.ref f)=true/\Binds K fd ps ds/\Vals (is.map V.int) ds
section
variable {X:Cx} {k m n:Nat} {ps:List Str} {g:V6} {x:Str} {p pos:Pos} {e:Expr} {es:List Expr} {f:DA} {is:List Int}
theorem a8A(c:a6q X.prog X.w X.K X.mg X.base k x ps (spX X.K m g) is)(hr:Room k X.A)(hg:Gl X x)(ha:SA X (e :: es) n f)(hn:n + is.length=m:=by rfl)(hdb:(x == ("__debug__":Str))=false:=by decide)
  (he:starEach (e :: es) X.env=(false,eval e X.env) :: starEach es X.env:=by rfl) (hpl:(backTo pos (starEach es X.env)).any (·.1)=false:=by rfl):SE X (.Call (.Name x p) (e :: es) [] pos) (b3g (fun ds h Q=>g ds h Q fun _ _ _=>False) is f):=by
 obtain ⟨fa,fd,ds,F,hm,hk,hb,hv⟩:=c.ex;refine PE.imp (a2b F hr hg hm hk hb hv a7J ha hdb he hpl) fun σ H Q zz0=>?_;obtain ⟨π,α,δ,h,Q',R,S,f,k⟩:=zz0;refine ⟨π,α,δ,h,_,R,S,f,fun ds h1 α1 H1 vs f1 e1 R1 q1 l1=>?_⟩;show spX X.K m g (vs ++ is.map V.int) H1 Q E0;exact ⟨π,α1,h1,ds ++ is.map D.int,Q',_,R1,q1.append (RelDs.intsF is),by rw [List.length_append,List.length_map,l1];exact hn,f1,fun d h' α' H' v a b c d'=>k d h' α' H' v a (e1.trans b) c d',fun _ _ _ _ _ _ _ a _ _ _=>a.elim⟩
end
end DL
namespace DL
open PySem PySem.Spec L2
def a7f(g:V6)(fa:DA)(c1 c2:Str)(j:Nat)(bh:DS):DS:=fun En δ h=>fa δ h fun ds h1=>g ds h1 (fun _ h2=>En.nx δ h2) (fun c fs h2=>(c=c1\/c=c2)/\bh (a1j En j) (δ.set j (some (.exc c fs))) h2)
section
variable {K:PySem.W.Frag} {Ex:XK} {π α:List Addr} {H:Hp} {δ:Sl} {σ:L2.St} {h:Hh} {En:K4} {F:M9} {CB:Addr} {c1 c2:Str} {j:Nat} {bh:DS}
theorem a5w(hex1:∀ C,PySem.W.nsIn K mainGlobals c1=some (some (.ref C))->PySem.W.exmOne K (.ref C) (.ref CB)=some true)(hex2:∀ C,PySem.W.nsIn K mainGlobals c2=some (some (.ref C))->PySem.W.exmOne K (.ref C) (.ref CB)=some true)(S:RelS ⟨K,π⟩ α H δ σ)(k:EndsOk ⟨K,π⟩ Ex α H En F) :
  ∀ c fs h2 α2 H2 C dx,((c=c1\/c=c2)/\bh (a1j En j) (δ.set j (some (.exc c fs))) h2)->Ext α H α2 H2->HRel ⟨K,π⟩ α2 H2 h2->PySem.W.nsIn K mainGlobals c=some (some (.ref C))->XQ ⟨K,π⟩ α2 H2 dx fs ->
   ∃ C' d,Value.ref C = .ref C'/\dx=d/\PySem.W.exmOne K (.ref C) (.ref CB)=some true/\∀ a,H2 a=none->LS K Ex bh { nx:=fun σ' H''=>F.nx (σ'.set j none) H'',rt:=F.rt,bk:=fun σ' H''=>F.bk (σ'.set j none) H'',ct:=fun σ' H''=>F.ct (σ'.set j none) H'' } (σ.set j (some (.ref a))) (upd H2 a (.ext (Y6 C' d a))):=by
 rintro c fs h2 α2 H2 C dx ⟨hc,b⟩ e2 R2 hns hve
 rcases hc with rfl | rfl
 ·exact a2K hex1 S k c fs h2 α2 H2 C dx ⟨rfl,b⟩ e2 R2 hns hve
 ·exact a2K hex2 S k c fs h2 α2 H2 C dx ⟨rfl,b⟩ e2 R2 hns hve
end
section
variable {X:Cx} {k m:Nat} {ps:List Str} {g:V6} {x cx c1 c2 n:Str} {p pos cpos cp hpos tpos:Pos} {e:Expr} {es:List Expr} {l:Nat} {fa:DA} {b₀:Stmt} {suite:List Stmt} {bh:DS} {j:Nat}
theorem b0q(hst:X.stack=X.env :: X.outer/\X.env.frame=some X.env.locals)(hxe:∀ e s,¬ X.xe e s)(hN:X.N.Nodup)(hj:X.N[j]?=some n)(hk:X.env.kindOf n=some .local)
  (c:a7p X.prog X.w X.K X.mg X.base k x ps (spX X.K m g)) (hr:Room k X.A) (hg:Gl X x) (ha:SA X (e :: es) l fa) (hc:a1J X.K X.mg cx c1) (hc2:a1J X.K X.mg cx c2) (hgc:Gl X cx) (hB:∀ a,SSs (X.hnd a) (b₀ :: suite) bh) (hl:l=m:=by rfl) (hdb:(x == ("__debug__":Str))=false:=by decide) (hdc:(cx == ("__debug__":Str))=false:=by decide)
  (he:starEach (e :: es) X.env=(false,eval e X.env) :: starEach es X.env:=by rfl) (hpl:(backTo cpos (starEach es X.env)).any (·.1)=false:=by rfl) (hs:swapsWith (.Call (.Name x p) (e :: es) [] cpos) none pos.line X.env=pure false:=by rfl)
  (hf2:X.fn n=true\/X.env.scope.names.lookup n=some .local:=by trivial) :
  SS X (.Try [.Expr (.Call (.Name x p) (e :: es) [] cpos) pos] [.ExceptHandler (some (.Name cx cp)) (some n) (b₀ :: suite) hpos] [] [] tpos) (a7f g fa c1 c2 j bh):=by
 obtain ⟨CB,hmc,hex⟩:=hc.ex;obtain ⟨CB2,hmc2,hex2⟩:=hc2.ex;rw [hmc] at hmc2;cases hmc2;obtain ⟨f,fd,F,hm,hkp,hb⟩:=c.ex;refine PS.imp (b3D (th:=LS X.K X.ex9 bh) hst hxe (a9l (a9i F hr hg hm hkp hb ha hdb he hpl) hs) hgc hmc hN hj hk hB hf2 hdc) fun F σ H zz0=>?_;obtain ⟨π,α,δ,h,En,R,S,q,k⟩:=zz0;refine ⟨π,α,δ,h,_,R,S,q,fun ds h1 α1 H1 vs f1 e1 R1 q1 l1=>?_⟩;exact ⟨π,α1,h1,ds,_,_,R1,q1,l1.trans hl,f1,fun d h' α' H' v a b c d'=>k.nx _ h' α' H' _ a (e1.trans b) c (S.mono (e1.trans b)),a5w hex hex2 (S.mono e1) (k.mono e1)⟩
end
def V4(c1 c2:Str)(b1 b2:Bool)(fa:DE):DE:=fun δ h Q=>fa δ h fun d h1=>match d with | .exc c _=>(c=c1/\Q (.bl b1) h1)\/(c=c2/\Q (.bl b2) h1) | _=>False
section
variable {X:Cx} {c1 c2:Str} {b1 b2:Bool} {a t:Expr} {fa:DE} {p pos:Pos} {u:Value} {v:V}
theorem a4D(hg:Gl X "isinstance")(hm:X.mg "isinstance" = none)(k1:L8 X.K c1)(k2:L8 X.K c2)(i1:IsX X.K c1 u b1)(i2:IsX X.K c2 u b2)(ha:SE X a fa)(ht:PE X t (tC v))(hv:∀ u',RelV v u'->u'=u)
  (he:starEach [a,t] X.env=(false,eval a X.env) :: starEach [t] X.env:=by rfl) (he2:starEach [t] X.env=(false,eval t X.env) :: starEach [] X.env:=by rfl) (hpl:(backTo pos (starEach [t] X.env)).any (·.1)=false:=by rfl) :
  SE X (.Call (.Name "isinstance" p) [a,t] [] pos) (V4 c1 c2 b1 b2 fa):=PE.imp (V2 a1I hg hm PyProof.Rows.boot_isinstance (A4 ha (A4 ht N7 he2) he) (by decide) (by decide) he hpl) fun σ H Q zz0=>by
 obtain ⟨π,α,δ,h,Q',R,S,f,k⟩:=zz0;obtain ⟨C1,hns1,cl1⟩:=k1.ex;obtain ⟨C2,hns2,cl2⟩:=k2.ex;obtain ⟨C',hns',e1⟩:=i1.ex;rw [hns1] at hns';cases hns'
 obtain ⟨C',hns',e2⟩:=i2.ex;rw [hns2] at hns';cases hns'
 refine ⟨π,α,δ,h,_,R,S,f,fun d h1 α1 H1 v1 f1 x1 R1 q1=>?_⟩
 cases q1 with
 |@exc a' C3 dx cn2 fs n2 va vd =>
  rcases f1 with ⟨rfl,f1⟩ | ⟨rfl,f1⟩
  ·rw [hns1] at n2;cases n2;exact ⟨a',dx,C1,v,u,b1,rfl,va.2.2,vd.dict,cl1,e1,hv,k _ h1 α1 H1 _ f1 x1 R1 (.bl _)⟩
  ·rw [hns2] at n2;cases n2;exact ⟨a',dx,C2,v,u,b2,rfl,va.2.2,vd.dict,cl2,e2,hv,k _ h1 α1 H1 _ f1 x1 R1 (.bl _)⟩
 |_=>exact f1.elim
theorem a1B{x:Str}{p2:Pos}(hg:Gl X "isinstance")(hm:X.mg "isinstance" = none)(k1:L8 X.K c1)(k2:L8 X.K c2)(i1:∃ CX,X.mg x=some (.ref CX)/\IsX X.K c1 (.ref CX) b1)(i2:∃ CX,X.mg x=some (.ref CX)/\IsX X.K c2 (.ref CX) b2)(hx:Gl X x)(ha:SE X a fa)(hdb:(x == ("__debug__":Str))=false:=by decide)
  (he:starEach [a,.Name x p2] X.env=(false,eval a X.env) :: starEach [.Name x p2] X.env:=by rfl) (he2:starEach [.Name x p2] X.env=(false,eval (.Name x p2) X.env) :: starEach [] X.env:=by rfl) (hpl:(backTo pos (starEach [.Name x p2] X.env)).any (·.1)=false:=by rfl) :
  SE X (.Call (.Name "isinstance" p) [a,.Name x p2] [] pos) (V4 c1 c2 b1 b2 fa):=by
 obtain ⟨C,m,i1⟩:=i1;obtain ⟨C',m',i2⟩:=i2;rw [m] at m';cases m'
 exact a4D hg hm k1 k2 i1 i2 ha (P8 (v:=.ref C) hx m rfl hdb) (fun _ h=>h) he he2 hpl
theorem b1u{p2:Pos}(hg:Gl X "isinstance")(hm:X.mg "isinstance" = none)(k1:L8 X.K c1)(k2:L8 X.K c2)(i1:IsX X.K c1 (.type "ValueError") b1)(i2:IsX X.K c2 (.type "ValueError") b2)(hx:Gl X "ValueError")(hv:X.mg "ValueError" = none)(ha:SE X a fa)
  (he:starEach [a,.Name "ValueError" p2] X.env=(false,eval a X.env) :: starEach [.Name "ValueError" p2] X.env:=by rfl) (he2:starEach [.Name "ValueError" p2] X.env=(false,eval (.Name "ValueError" p2) X.env) :: starEach [] X.env:=by rfl) (hpl:(backTo pos (starEach [.Name "ValueError" p2] X.env)).any (·.1)=false:=by rfl) :
  SE X (.Call (.Name "isinstance" p) [a,.Name "ValueError" p2] [] pos) (V4 c1 c2 b1 b2 fa):=a4D hg hm k1 k2 i1 i2 ha (J4 (v:=.ty "ValueError") hx hv Z0 rfl) (fun _ h=>h) he he2 hpl
end
end DL
namespace DL
open PySem PySem.Spec L2
section
variable {X:Cx} {cA cB:Str} {a:Expr} {fa:DE} {p pos:Pos} {x1 x2 x3 x4 x5:Str} {p1 p2 p3 p4 p5 tpos:Pos} {ctx:Nat}
theorem b7G{K:PySem.W.Frag}{t c1 c2 c3 c4 c5:Value}(h1:PySem.W.kitOne K t c1=some false)(h2:PySem.W.kitOne K t c2=some false)(h3:PySem.W.kitOne K t c3=some false)(h4:PySem.W.kitOne K t c4=some false)(h5:PySem.W.kitOne K t c5=some false):PySem.W.kitAny K t [c1,c2,c3,c4,c5]=some false:=by
 simp only [PySem.W.kitAny,h1,h2,h3,h4,h5]
theorem b1W(hg:Gl X "isinstance")(hm:X.mg "isinstance" = none)(kA:L8 X.K cA)(kB:L8 X.K cB)(i1:∃ CX,X.mg x1=some (.ref CX)/\IsX X.K cA (.ref CX) false)(j1:∃ CX,X.mg x1=some (.ref CX)/\IsX X.K cB (.ref CX) false)(i2:∃ CX,X.mg x2=some (.ref CX)/\IsX X.K cA (.ref CX) false)(j2:∃ CX,X.mg x2=some (.ref CX)/\IsX X.K cB (.ref CX) false)(i3:∃ CX,X.mg x3=some (.ref CX)/\IsX X.K cA (.ref CX) false)(j3:∃ CX,X.mg x3=some (.ref CX)/\IsX X.K cB (.ref CX) false)(i4:∃ CX,X.mg x4=some (.ref CX)/\IsX X.K cA (.ref CX) false)(j4:∃ CX,X.mg x4=some (.ref CX)/\IsX X.K cB (.ref CX) false)(i5:∃ CX,X.mg x5=some (.ref CX)/\IsX X.K cA (.ref CX) false)(j5:∃ CX,X.mg x5=some (.ref CX)/\IsX X.K cB (.ref CX) false)
  (g1:Gl X x1) (g2:Gl X x2) (g3:Gl X x3) (g4:Gl X x4) (g5:Gl X x5) (ha:SE X a fa) (d1:(x1 == ("__debug__":Str))=false:=by decide) (d2:(x2 == ("__debug__":Str))=false:=by decide) (d3:(x3 == ("__debug__":Str))=false:=by decide) (d4:(x4 == ("__debug__":Str))=false:=by decide) (d5:(x5 == ("__debug__":Str))=false:=by decide)
  (s1:starEach [.Name x1 p1,.Name x2 p2,.Name x3 p3,.Name x4 p4,.Name x5 p5] X.env=(false,eval (.Name x1 p1) X.env) :: starEach [.Name x2 p2,.Name x3 p3,.Name x4 p4,.Name x5 p5] X.env:=by rfl) (s2:starEach [.Name x2 p2,.Name x3 p3,.Name x4 p4,.Name x5 p5] X.env=(false,eval (.Name x2 p2) X.env) :: starEach [.Name x3 p3,.Name x4 p4,.Name x5 p5] X.env:=by rfl) (s3:starEach [.Name x3 p3,.Name x4 p4,.Name x5 p5] X.env=(false,eval (.Name x3 p3) X.env) :: starEach [.Name x4 p4,.Name x5 p5] X.env:=by rfl) (s4:starEach [.Name x4 p4,.Name x5 p5] X.env=(false,eval (.Name x4 p4) X.env) :: starEach [.Name x5 p5] X.env:=by rfl) (s5:starEach [.Name x5 p5] X.env=(false,eval (.Name x5 p5) X.env) :: starEach [] X.env:=by rfl)
  (he:starEach [a,.Tuple [.Name x1 p1,.Name x2 p2,.Name x3 p3,.Name x4 p4,.Name x5 p5] ctx tpos] X.env=(false,eval a X.env) :: starEach [.Tuple [.Name x1 p1,.Name x2 p2,.Name x3 p3,.Name x4 p4,.Name x5 p5] ctx tpos] X.env:=by rfl)
  (he2:starEach [.Tuple [.Name x1 p1,.Name x2 p2,.Name x3 p3,.Name x4 p4,.Name x5 p5] ctx tpos] X.env=(false,eval (.Tuple [.Name x1 p1,.Name x2 p2,.Name x3 p3,.Name x4 p4,.Name x5 p5] ctx tpos) X.env) :: starEach [] X.env:=by rfl) (hpl:(backTo pos (starEach [.Tuple [.Name x1 p1,.Name x2 p2,.Name x3 p3,.Name x4 p4,.Name x5 p5] ctx tpos] X.env)).any (·.1)=false:=by rfl) :
  SE X (.Call (.Name "isinstance" p) [a,.Tuple [.Name x1 p1,.Name x2 p2,.Name x3 p3,.Name x4 p4,.Name x5 p5] ctx tpos] [] pos) (V4 cA cB false false fa):=by
 obtain ⟨C1,m1,k1⟩:=i1;obtain ⟨D1,n1,l1⟩:=j1;rw [m1] at n1;cases n1;obtain ⟨C2,m2,k2⟩:=i2;obtain ⟨D2,n2,l2⟩:=j2;rw [m2] at n2;cases n2;obtain ⟨C3,m3,k3⟩:=i3;obtain ⟨D3,n3,l3⟩:=j3;rw [m3] at n3;cases n3;obtain ⟨C4,m4,k4⟩:=i4;obtain ⟨D4,n4,l4⟩:=j4;rw [m4] at n4;cases n4;obtain ⟨C5,m5,k5⟩:=i5;obtain ⟨D5,n5,l5⟩:=j5;rw [m5] at n5;cases n5;refine PE.imp (V2 a1P hg hm PyProof.Rows.boot_isinstance (A4 ha (A4 (a6I (A4 (P8 (v:=.ref C1) g1 m1 rfl d1) (A4 (P8 (v:=.ref C2) g2 m2 rfl d2) (A4 (P8 (v:=.ref C3) g3 m3 rfl d3) (A4 (P8 (v:=.ref C4) g4 m4 rfl d4) (A4 (P8 (v:=.ref C5) g5 m5 rfl d5) N7 s5) s4) s3) s2) s1)) N7 he2) he) (by decide) (by decide) he hpl) fun σ H Q zz0=>?_;obtain ⟨π,α,δ,h,Q',R,S,f,k⟩:=zz0;obtain ⟨C,hns,cl⟩:=kA.ex;obtain ⟨E,hnsE,clE⟩:=kB.ex;obtain ⟨C',hns',e1⟩:=k1.ex;rw [hns] at hns';cases hns'
 obtain ⟨C',hns',u1⟩:=l1.ex;rw [hnsE] at hns';cases hns'
 obtain ⟨C',hns',e2⟩:=k2.ex;rw [hns] at hns';cases hns'
 obtain ⟨C',hns',u2⟩:=l2.ex;rw [hnsE] at hns';cases hns'
 obtain ⟨C',hns',e3⟩:=k3.ex;rw [hns] at hns';cases hns'
 obtain ⟨C',hns',u3⟩:=l3.ex;rw [hnsE] at hns';cases hns'
 obtain ⟨C',hns',e4⟩:=k4.ex;rw [hns] at hns';cases hns'
 obtain ⟨C',hns',u4⟩:=l4.ex;rw [hnsE] at hns';cases hns'
 obtain ⟨C',hns',e5⟩:=k5.ex;rw [hns] at hns';cases hns'
 obtain ⟨C',hns',u5⟩:=l5.ex;rw [hnsE] at hns';cases hns'
 refine ⟨π,α,δ,h,_,R,S,f,fun d h1 α1 H1 v1 f0 x1 R1 q1=>⟨(by decide:5 <= sizeLine),fun tp htp=>?_⟩⟩;have x2:Ext α1 H1 α1 (upd H1 tp (.tup [.ref C1,.ref C2,.ref C3,.ref C4,.ref C5])):=Ext.new htp;have q2:=q1.mono x2
 cases q2 with
 |@exc a' C2' dx cn2 fs n2 va vd =>
  rcases f0 with ⟨rfl,f1⟩ | ⟨rfl,f1⟩
  ·rw [hns] at n2;cases n2;refine ⟨a',dx,C,tp,_,false,rfl,va.2.2,vd.dict,cl,m8,fun us r=>?_,k _ h1 α1 _ _ f1 (x1.trans x2) (R1.new htp) (.bl _)⟩
   rcases r with _ | ⟨r1,r⟩
   rcases r with _ | ⟨r2,r⟩
   rcases r with _ | ⟨r3,r⟩
   rcases r with _ | ⟨r4,r⟩
   rcases r with _ | ⟨r5,r⟩
   cases r
   cases r1;cases r2;cases r3;cases r4;cases r5;exact b7G e1 e2 e3 e4 e5
  ·rw [hnsE] at n2;cases n2;refine ⟨a',dx,E,tp,_,false,rfl,va.2.2,vd.dict,clE,m8,fun us r=>?_,k _ h1 α1 _ _ f1 (x1.trans x2) (R1.new htp) (.bl _)⟩
   rcases r with _ | ⟨r1,r⟩
   rcases r with _ | ⟨r2,r⟩
   rcases r with _ | ⟨r3,r⟩
   rcases r with _ | ⟨r4,r⟩
   rcases r with _ | ⟨r5,r⟩
   cases r
   cases r1;cases r2;cases r3;cases r4;cases r5;exact b7G u1 u2 u3 u4 u5
 |_=>exact f0.elim
end
end DL
namespace CM
open PySem L2 DL
theorem a4z{t:DT}{b:DS}{E:K4}(P:Nat->Sl->Hh->Prop){m:Nat}{δ:Sl}{h:Hh}(h0:P m δ h)(step:∀ m δ h (N:Sl->Hh->Prop),P m δ h->(∀ m' δ' h',m' < m->P m' δ' h'->N δ' h')->t δ h fun c h1=>if c=true then b { E with nx:=N,ct:=N,bk:=E.nx } δ h1 else E.nx δ h1):a1Y t b E δ h:=by
 refine ⟨m + 1,?_⟩
 have key:∀ n m δ h,m < n->P m δ h->whN t b E n δ h:=by
  intro n
  induction n with
  |zero=>intro m δ h hm;exact absurd hm (Nat.not_lt_zero _)
  |succ n ih =>
   intro m δ h hm hp;exact step m δ h _ hp fun m' δ' h' hm' hp'=>ih m' δ' h' (Nat.lt_of_lt_of_le hm' (Nat.le_of_lt_succ hm)) hp'
 exact key _ m δ h (Nat.lt_succ_self _) h0
theorem U7{C:i9}{f n p d e:Nat}{w:Mv}{F:Fn}{E:Edge}(hF:C[f]?=some F)(hE:F.edges[n]?=some E)(h1:(E.isStep == (w == .step))=true)(h2:E.p=p)(h3:br (E.tab w) d e=true):takes C f p d w (n:Int) (e:Int)=some E:=by
 have:B4 C f (n:Int)=some E:=by unfold B4;rw [if_pos (by omega),hF,Int.toNat_natCast];exact hE
 unfold takes;rw [this];exact if_pos ⟨h1,h2,h3⟩
theorem J7{cs:List Clm}{k:Nat}{c:Clm}(h:cs[k]?=some c):i7 cs (k:Int)=some c:=by
 unfold i7;rw [if_pos (by omega),Int.toNat_natCast];exact h
theorem b2U{C:i9}{cs:List Clm}{w:Mv}{k n e:Int}{f a p d c:Nat}(st:Nat)(hw:w ≠ .inn)(h:i7 cs k=some (.within f a p d c)):i6 C st cs (.mv w k n e)=(takes C f p d w n e).map fun E=>.within f a E.q e.toNat (c + E.cost):=by
 cases w with
 |inn=>exact absurd rfl hw
 |step=>simp only [i6,h]
 |over=>simp only [i6,h]
theorem b8I{C:i9}{cs:List Clm}{k n e:Int}{f p d c:Nat}(st:Nat)(h:i7 cs k=some (.at f p d c)):i6 C st cs (.mv .inn k n e)=(takes C f p d .inn n e).bind fun E=>match E.k with | .call g _ _ _=>some (.at g 0 e.toNat (c + E.cost)) | _=>none:=by
 simp only [i6,h] <;> rfl
theorem a6s{C:i9}{cs:List Clm}{k n j e:Int}{f a p d c g b x y c':Nat}(st:Nat)(h1:i7 cs k=some (.within f a p d c))(h2:i7 cs j=some (.within g b x y c')):i6 C st cs (.short k n j e)=(takes C f p d .inn n b).bind fun E=>match E.k with
   |.call g' _ bk _=>(C[g']?).bind fun G=>if g'=g/\x + 1=G.places/\br bk y e=true then some (.within f a E.q e.toNat (c + E.cost + c')) else none
   |_=>none:=by
 simp only [i6,h1,h2] <;> rfl
theorem a2Q{C:i9}{cs:List Clm}{k j:Int}{f a c q d c':Nat}(st:Nat)(h1:i7 cs k=some (.at f 0 a c))(h2:i7 cs j=some (.within f a q d c')):i6 C st cs (.along k j)=some (.at f q d (c + c')):=by
 simp only [i6,h1,h2,true_and,and_self,if_true]
theorem a2A{C:i9}{cs:List Clm}{F:Fn}{f d:Nat}(st:Nat)(hF:C[f]?=some F)(hl:d < F.facts):i6 C st cs (.begin f d)=some (.within f d 0 d 0):=by
 simp only [i6,Int.toNat_natCast,hF];rw [if_pos ⟨by omega,by omega⟩];show (if ((d:Nat):Int) < F.facts then some (Clm.within f d 0 d 0) else none)=_;rw [if_pos (by omega)]
theorem O4{C:i9}{st:Nat}{r:Row}{c:Clm}:∀ {rs:List Row} {cs ds:List Clm},D8 C st rs cs=some ds->i6 C st ds r=some c->D8 C st (rs ++ [r]) cs=some (ds ++ [c])
 |[],cs,ds,h,k=>by cases h;show (i6 C st cs r).bind _=_;rw [k];rfl
 |r' :: rs,cs,ds,h,k=>by
  have h:((i6 C st cs r').bind fun c=>D8 C st rs (cs ++ [c]))=some ds:=h;show ((i6 C st cs r').bind fun c=>D8 C st (rs ++ [r]) (cs ++ [c]))=_
  cases q:i6 C st cs r' with
  |none=>rw [q] at h;cases h
  |some c'=>rw [q] at h;exact O4 (rs:=rs) h k
theorem a3W{t:List Nat}{d e:Nat}(h:(t.getD d 0).testBit e=true):br t d (e:Int)=true:=by
 unfold br;rw [decide_eq_true (by omega),Int.toNat_natCast];simpa using h
theorem a1d{C:i9}{cs:List Clm}{F:Fn}{st d:Nat}(hF:C[0]?=some F)(hl:d < F.facts)(hb:st.testBit d=true):i6 C st cs (.start d)=some (.at 0 0 d 0):=by
 simp only [i6,hF];rw [if_pos (by omega)];show (if ((d:Nat):Int) < F.facts/\st.testBit ((d:Nat):Int).toNat=true then some (Clm.at 0 0 ((d:Nat):Int).toNat 0) else none)=_;rw [Int.toNat_natCast,if_pos ⟨by omega,hb⟩]
inductive Part where | row (j:Nat) | mv (m:GM)
def ptD:Part->D | .row j=>nD j | .mv m=>gmD m
def pF(ws:List (List GM)):Part->List GM | .row j=>ws.getD j [] | .mv m=>[m]
def pW(vs:List Nat):Part->Nat | .row j=>vs.getD j 0 | .mv _=>1
def pC(M:Nat)(ws:List (List GM)):Part->Nat | .row j=>min (ws.getD j []).length M | .mv _=>1
def C7(ws:List (List GM))(p:List Part):List GM:=p.flatMap (pF ws)
def wt(vs:List Nat)(p:List Part):Nat:=(p.map (pW vs)).sum
def cnt(M:Nat)(ws:List (List GM))(p:List Part):Nat:=(p.map (pC M ws)).sum
def N8(n:Nat)(p:List Part):Prop:=∀ j,Part.row j ∈ p->j < n
inductive Fl:List (List Part)->List (List GM)->List Nat->Prop
 |nil:Fl [] [] []
 |snoc {ps ws vs p}:Fl ps ws vs->N8 ps.length p->Fl (ps ++ [p]) (ws ++ [C7 ws p]) (vs ++ [1 + wt vs p])
theorem Fl.lens{ps ws vs}(f:Fl ps ws vs):ws.length=ps.length/\vs.length=ps.length:=by
 induction f with
 |nil=>exact ⟨rfl,rfl⟩
 |snoc _ _ ih=>simp [ih.1,ih.2]
theorem a0S{α:Type}{xs:List α}{x d:α}{j:Nat}(h:j < xs.length):(xs ++ [x]).getD j d=xs.getD j d:=by
 rw [List.getD_eq_getElem?_getD,List.getD_eq_getElem?_getD,List.getElem?_append_left h]
theorem a1i{ws:List (List GM)}{w:List GM}{p:List Part}(h:N8 ws.length p):C7 (ws ++ [w]) p=C7 ws p:=by
 unfold C7
 induction p with
 |nil=>rfl
 |cons x p ih =>
  rw [List.flatMap_cons,List.flatMap_cons,ih fun j hj=>h j (List.mem_cons_of_mem _ hj)]
  cases x with
  |mv m=>rfl
  |row j=>show (ws ++ [w]).getD j [] ++ _=ws.getD j [] ++ _;rw [a0S (h j List.mem_cons_self)]
theorem a4t{vs:List Nat}{v:Nat}{p:List Part}(h:N8 vs.length p):wt (vs ++ [v]) p=wt vs p:=by
 unfold wt
 congr 1
 refine List.map_congr_left fun x hx=>?_
 cases x with
 |mv m=>rfl
 |row j=>exact a0S (h j hx)
theorem Fl.get{ps ws vs}(f:Fl ps ws vs):∀ {k:Nat} {p:List Part},ps[k]?=some p->ws[k]?=some (C7 ws p)/\vs[k]?=some (1 + wt vs p)/\N8 k p:=by
 induction f with
 |nil=>intro k p h;simp at h
 |@snoc ps ws vs p0 f hp ih =>
  intro k p h;obtain ⟨l1,l2⟩:=f.lens;have hk:k < ps.length + 1:=by have:=(List.getElem?_eq_some_iff.mp h).1;simpa using this
  by_cases z:k < ps.length
  ·rw [List.getElem?_append_left z] at h;obtain ⟨a,b,c⟩:=ih h;rw [List.getElem?_append_left (by omega),List.getElem?_append_left (by omega),a1i (fun j hj=>by have:=c j hj;omega),a4t (fun j hj=>by have:=c j hj;omega)];exact ⟨a,b,c⟩
  ·obtain rfl:k=ps.length:=by omega
   rw [List.getElem?_append_right (Nat.le_refl _)] at h
   simp at h
   subst h;rw [a1i (by rw [l1];exact hp),a4t (by rw [l2];exact hp),List.getElem?_append_right (by omega),List.getElem?_append_right (by omega)]
   simp [l1,l2]
   exact hp
theorem a5g{a s t M:Nat}(h:min s M=min t M):min (a + s) M=min (a + t) M:=by
 rcases Nat.le_total M s with h1 | h1
 ·rw [Nat.min_eq_right h1] at h;have h2:M <= t:=by rcases Nat.le_total M t with z | z;exact z;rw [Nat.min_eq_left z] at h;rw [h];exact Nat.le_refl _
  rw [Nat.min_eq_right (Nat.le_trans h1 (Nat.le_add_left ..)),Nat.min_eq_right (Nat.le_trans h2 (Nat.le_add_left ..))]
 ·rw [Nat.min_eq_left h1] at h
  rcases Nat.le_total M t with h2 | h2
  ·rw [Nat.min_eq_right h2] at h;rw [h,Nat.min_eq_right (Nat.le_add_left ..),Nat.min_eq_right (Nat.le_trans h2 (Nat.le_add_left ..))]
  ·rw [Nat.min_eq_left h2] at h;rw [h]
theorem cap_min{a t M:Nat}:min (min a M + t) M=min (a + t) M:=by
 rcases Nat.le_total M a with h1 | h1
 ·rw [Nat.min_eq_right h1,Nat.min_eq_right (Nat.le_add_right ..),Nat.min_eq_right (Nat.le_trans h1 (Nat.le_add_right ..))]
 ·rw [Nat.min_eq_left h1]
theorem b0U(M:Nat)(ws:List (List GM))(p:List Part):min (cnt M ws p) M=min (C7 ws p).length M:=by
 unfold cnt C7
 induction p with
 |nil=>rfl
 |cons x p ih =>
  rw [List.map_cons,List.sum_cons,List.flatMap_cons,List.length_append]
  cases x with
  |mv m=>exact a5g ih
  |row j=>exact cap_min.trans (a5g ih)
theorem Fl.wt_len{ps ws vs}(f:Fl ps ws vs){p:List Part}(h:N8 ps.length p):p.length <= wt vs p:=by
 unfold wt
 induction p with
 |nil=>exact Nat.zero_le _
 |cons x p ih =>
  have:=ih fun j hj=>h j (List.mem_cons_of_mem _ hj)
  rw [List.map_cons,List.sum_cons,List.length_cons]
  have h1:1 <= pW vs x:=by
   cases x with
   |mv m=>exact Nat.le_refl 1
   |row j =>
    have hj:=h j List.mem_cons_self;obtain ⟨_,b,_⟩:=f.get (List.getElem?_eq_getElem hj);show 1 <= vs.getD j 0;rw [List.getD_eq_getElem?_getD,b];simp
  omega
def aOf(cs:List Clm)(j:Int):Nat:=match cs[j.toNat]? with | some (.within _ a _ _ _)=>a | _=>0
def k9(cs:List Clm):Row->List Part
 |.begin _ _=>[]
 |.start _=>[]
 |.along k j=>[.row k.toNat,.row j.toNat]
 |.mv w k n e=>[.row k.toNat,.mv (.go w n e)]
 |.short k n j e=>[.row k.toNat,.mv (.go .inn n (aOf cs j)),.row j.toNat,.mv (.out e)]
def fitR(cs:List Clm):Row->Prop
 |.begin _ _=>True
 |.start _=>True
 |.along k j=>0 <= k/\0 <= j
 |.mv _ k _ _=>0 <= k
 |.short k _ j _=>0 <= k/\0 <= j/\∃ f a p d c,cs[j.toNat]?=some (.within f a p d c)
theorem fitR.snoc{cs:List Clm}{r:Row}(c:Clm)(h:fitR cs r):fitR (cs ++ [c]) r/\k9 (cs ++ [c]) r=k9 cs r:=by
 cases r with
 |short k n j e =>
  obtain ⟨a,b,f,a',p,d,c',z⟩:=h;have z':(cs ++ [c])[j.toNat]?=some (.within f a' p d c'):=by rw [List.getElem?_append_left (List.getElem?_eq_some_iff.mp z).1];exact z
  refine ⟨⟨a,b,f,a',p,d,c',z'⟩,?_⟩;simp only [k9,aOf,z,z']
 |_=>exact ⟨h,rfl⟩
section
variable {C:i9} {d:Nat} {rs:List Row} {cs:List Clm} {ws:List (List GM)} {vs:List Nat} {F:Fn}
end
inductive First(rs:List Row):Nat->Int->Prop
 |start {k:Nat} {d:Int}:rs[k]?=some (.start d)->First rs k d
 |inn {k j:Nat} {n e d:Int}:rs[k]?=some (.mv .inn j n e)->j < k->First rs j d->First rs k d
 |along {k j:Nat} {i d:Int}:rs[k]?=some (.along j i)->j < k->First rs j d->First rs k d
end CM
namespace CM
open PySem L2 DL
section
variable {n m d:Nat} {Es:List Edge} {rs:List Row} {xs:List Nat} {w:List GM}
end
end CM
namespace CM
open PySem L2 DL
section
variable {m d c k0:Nat} {Es:List Edge}
end
end CM
namespace CM
open PySem L2 DL
theorem u8{cs:List Clm}{k:Int}{c:Clm}(h:i7 cs k=some c):0 <= k/\cs[k.toNat]?=some c:=by
 unfold i7 at h
 split at h
 ·rename_i z;exact ⟨z,h⟩
 ·cases h
inductive Cl(C:i9)(st:Nat)(cs:List Clm):Row->Clm->Prop
 |begin {f d:Int} {F:Fn}:0 <= f->0 <= d->C[f.toNat]?=some F->d < F.facts->Cl C st cs (.begin f d) (.within f.toNat d.toNat 0 d.toNat 0)
 |start {d:Int} {F:Fn}:0 <= d->C[0]?=some F->d < F.facts->st.testBit d.toNat=true->Cl C st cs (.start d) (.at 0 0 d.toNat 0)
 |inn {k n e:Int} {f p d x g:Nat} {E:Edge} {i b o:List Nat}:i7 cs k=some (.at f p d x)->takes C f p d .inn n e=some E->E.k = .call g i b o->Cl C st cs (.mv .inn k n e) (.at g 0 e.toNat (x + E.cost))
 |mv {w:Mv} {k n e:Int} {f a p d x:Nat} {E:Edge}:w ≠ .inn->i7 cs k=some (.within f a p d x)->takes C f p d w n e=some E->Cl C st cs (.mv w k n e) (.within f a E.q e.toNat (x + E.cost))
 |short {k n j e:Int} {f a p d x g b q y z:Nat} {E:Edge} {i bk o:List Nat} {G:Fn}:i7 cs k=some (.within f a p d x)->i7 cs j=some (.within g b q y z)->takes C f p d .inn n b=some E->E.k = .call g i bk o->C[g]?=some G->q + 1=G.places->br bk y e=true->Cl C st cs (.short k n j e) (.within f a E.q e.toNat (x + E.cost + z))
 |along {k j:Int} {f a x q d z:Nat}:i7 cs k=some (.at f 0 a x)->i7 cs j=some (.within f a q d z)->Cl C st cs (.along k j) (.at f q d (x + z))
theorem Cl.of{C:i9}{st:Nat}{cs:List Clm}{r:Row}{c:Clm}(h:i6 C st cs r=some c):Cl C st cs r c:=by
 cases r with
 |begin f d =>
  have h:(if 0 <= f/\0 <= d then (C[f.toNat]?).bind fun F=>if d < F.facts then some (Clm.within f.toNat d.toNat 0 d.toNat 0) else none else none)=some c:=h
  split at h
  ·rename_i z
   cases q:C[f.toNat]? with
   |none=>rw [q] at h;cases h
   |some F =>
    rw [q] at h;have h:(if d < F.facts then some (Clm.within f.toNat d.toNat 0 d.toNat 0) else none)=some c:=h
    split at h
    ·rename_i z2;cases h;exact .begin z.1 z.2 q z2
    ·cases h
  ·cases h
 |start d =>
  have h:(if 0 <= d then (C[0]?).bind fun F=>if d < F.facts/\st.testBit d.toNat=true then some (Clm.at 0 0 d.toNat 0) else none else none)=some c:=h
  split at h
  ·rename_i z0
   cases q:C[0]? with
   |none=>rw [q] at h;cases h
   |some F =>
    rw [q] at h;have h:(if d < F.facts/\st.testBit d.toNat=true then some (Clm.at 0 0 d.toNat 0) else none)=some c:=h
    split at h
    ·rename_i z2;cases h;exact .start z0 q z2.1 z2.2
    ·cases h
  ·cases h
 |mv w k n e =>
  have two:∀ w:Mv,w ≠ .inn->i6 C st cs (.mv w k n e)=some c->Cl C st cs (.mv w k n e) c:=fun w hw h=>by
   have h:(match i7 cs k with | some (.within f a p d c)=>(takes C f p d w n e).map fun E=>Clm.within f a E.q e.toNat (c + E.cost) | _=>none)=some c:=by
    cases w with
    |inn=>exact absurd rfl hw
    |step=>exact h
    |over=>exact h
   cases q:i7 cs k with
   |none=>rw [q] at h;cases h
   |some x =>
    rw [q] at h
    cases x with
    |«at» f p d x=>cases h
    |within f a p d x =>
     dsimp only at h
     cases ht:takes C f p d w n e with
     |none=>rw [ht] at h;cases h
     |some E=>rw [ht] at h;cases h;exact .mv hw q ht
  cases w with
  |inn =>
   have h:(match i7 cs k with
    |some (.at f p d c)=>(takes C f p d .inn n e).bind fun E=>match E.k with | .call g _ _ _=>some (Clm.at g 0 e.toNat (c + E.cost)) | _=>none
    |_=>none)=some c:=h
   cases q:i7 cs k with
   |none=>rw [q] at h;cases h
   |some x =>
    rw [q] at h
    cases x with
    |within f a p d x=>cases h
    |«at» f p d x =>
     dsimp only at h
     cases ht:takes C f p d .inn n e with
     |none=>rw [ht] at h;cases h
     |some E =>
      rw [ht] at h;have h:(match E.k with | .call g _ _ _=>some (Clm.at g 0 e.toNat (x + E.cost)) | _=>none)=some c:=h
      cases hk:E.k with
      |step t=>rw [hk] at h;cases h
      |call g i b o=>rw [hk] at h;cases h;exact .inn q ht hk
  |step=>exact two _ (by decide) h
  |over=>exact two _ (by decide) h
 |short k n j e =>
  have h:(match i7 cs k,i7 cs j with
   |some (.within f a p d c),some (.within g b x y c')=>(takes C f p d .inn n b).bind fun E=>match E.k with
    |.call g' _ bk _=>(C[g']?).bind fun G=>if g'=g/\x + 1=G.places/\br bk y e=true then some (Clm.within f a E.q e.toNat (c + E.cost + c')) else none
    |_=>none
   |_,_=>none)=some c:=h
  cases q:i7 cs k with
  |none=>rw [q] at h;cases h
  |some x1 =>
   cases q2:i7 cs j with
   |none=>rw [q,q2] at h;cases x1 <;> cases h
   |some x2 =>
    rw [q,q2] at h
    cases x1 with
    |«at» f p d x=>cases h
    |within f a p d x =>
     cases x2 with
     |«at» f p d x=>cases h
     |within g b px y x' =>
      dsimp only at h
      cases ht:takes C f p d .inn n b with
      |none=>rw [ht] at h;cases h
      |some E =>
       rw [ht] at h
       have h:(match E.k with
        |.call g' _ bk _=>(C[g']?).bind fun G=>if g'=g/\px + 1=G.places/\br bk y e=true then some (Clm.within f a E.q e.toNat (x + E.cost + x')) else none
        |_=>none)=some c:=h
       cases hk:E.k with
       |step t=>rw [hk] at h;cases h
       |call g' i bk o =>
        rw [hk] at h;have h:((C[g']?).bind fun G=>if g'=g/\px + 1=G.places/\br bk y e=true then some (Clm.within f a E.q e.toNat (x + E.cost + x')) else none)=some c:=h
        cases hG:C[g']? with
        |none=>rw [hG] at h;cases h
        |some G =>
         rw [hG] at h;have h:(if g'=g/\px + 1=G.places/\br bk y e=true then some (Clm.within f a E.q e.toNat (x + E.cost + x')) else none)=some c:=h
         by_cases z:g'=g/\px + 1=G.places/\br bk y e=true
         ·rw [if_pos z] at h;have h9:=Option.some.inj h;obtain ⟨z1,z2,z3⟩:=z;subst z1;rw [<- h9];exact .short q q2 ht hk hG z2 z3
         ·rw [if_neg z] at h;cases h
 |along k j =>
  have h:(match i7 cs k,i7 cs j with | some (.at f p a c),some (.within g b q d c')=>if p=0/\g=f/\b=a then some (Clm.at f q d (c + c')) else none | _,_=>none)=some c:=h
  cases q:i7 cs k with
  |none=>rw [q] at h;cases h
  |some x1 =>
   cases q2:i7 cs j with
   |none=>rw [q,q2] at h;cases x1 <;> cases h
   |some x2 =>
    rw [q,q2] at h
    cases x1 with
    |within f a p d x=>cases h
    |«at» f p d x =>
     cases x2 with
     |«at» f p d x=>cases h
     |within g b px y x' =>
      have h:(if p=0/\g=f/\b=d then some (Clm.at f px y (x + x')) else none)=some c:=h
      by_cases z:p=0/\g=f/\b=d
      ·rw [if_pos z] at h;have h9:=Option.some.inj h;obtain ⟨z1,z2,z3⟩:=z;subst z1;subst z2;subst z3;rw [<- h9];exact .along q q2
      ·rw [if_neg z] at h;cases h
theorem a3t{C:i9}{st:Nat}{cs:List Clm}{r:Row}{c:Clm}{F:Fn}(hF:C[0]?=some F)(h:i6 C st cs r=some c):i6 C (2 ^ F.facts - 1) cs r=some c:=by
 cases r with
 |start d =>
  cases Cl.of h with
  |start h0 hF' hd hb =>
   rw [hF] at hF';cases hF'
   have:=a1d (st:=2 ^ F.facts - 1) (d:=d.toNat) (cs:=cs) hF (by omega) (by rw [Nat.testBit_two_pow_sub_one];exact decide_eq_true (by omega))
   rw [Int.toNat_of_nonneg h0] at this;exact this
 |mv w=>cases w <;> exact h
 |_=>exact h
inductive PR(C:i9)(st:Nat):List Row->List Clm->List (List GM)->List Nat->Prop
 |nil:PR C st [] [] [] []
 |snoc {rs cs ws vs r c}:PR C st rs cs ws vs->i6 C st cs r=some c->PR C st (rs ++ [r]) (cs ++ [c]) (ws ++ [C7 ws (k9 cs r)]) (vs ++ [1 + wt vs (k9 cs r)])
section
variable {C:i9} {st:Nat} {rs:List Row} {cs:List Clm} {ws:List (List GM)} {vs:List Nat}
theorem PR.lens(p:PR C st rs cs ws vs):cs.length=rs.length/\ws.length=rs.length/\vs.length=rs.length:=by
 induction p with
 |nil=>exact ⟨rfl,rfl,rfl⟩
 |snoc _ _ ih=>simp [ih.1,ih.2.1,ih.2.2]
theorem PR.full{F:Fn}(hF:C[0]?=some F)(p:PR C st rs cs ws vs):PR C (2 ^ F.facts - 1) rs cs ws vs:=by
 induction p with
 |nil=>exact .nil
 |snoc _ h ih=>exact .snoc ih (a3t hF h)
theorem PR.cl(p:PR C st rs cs ws vs):D8 C st rs []=some cs:=by
 induction p with
 |nil=>rfl
 |snoc _ h ih=>exact O4 ih h
theorem PR.prefix(p:PR C st rs cs ws vs):∀ k,k <= rs.length->PR C st (rs.take k) (cs.take k) (ws.take k) (vs.take k):=by
 induction p with
 |nil=>intro k _;rw [List.take_nil,List.take_nil,List.take_nil,List.take_nil];exact .nil
 |@snoc rs cs ws vs r c p h ih =>
  intro k hk;obtain ⟨l1,l2,l3⟩:=p.lens
  by_cases z:k <= rs.length
  ·rw [List.take_append_of_le_length z,List.take_append_of_le_length (by omega),List.take_append_of_le_length (by omega),List.take_append_of_le_length (by omega)];exact ih k z
  ·have:k=rs.length + 1:=by rw [List.length_append,List.length_cons,List.length_nil] at hk;omega
   rw [List.take_of_length_le (by simp;omega),List.take_of_length_le (by simp;omega),List.take_of_length_le (by simp;omega),List.take_of_length_le (by simp;omega)];exact .snoc p h
theorem m9{α:Type}{xs:List α}{k:Nat}{x:α}(h:xs[k]?=some x):k < xs.length:=(List.getElem?_eq_some_iff.mp h).1
theorem Cl.parts{r:Row}{c:Clm}(h:Cl C st cs r c):fitR cs r/\N8 cs.length (k9 cs r):=by
 cases h with
 |begin=>exact ⟨trivial,fun _ h=>nomatch h⟩
 |start=>exact ⟨trivial,fun _ h=>nomatch h⟩
 |inn a=>exact ⟨(u8 a).1,fun j hj=>by simp [k9] at hj;subst hj;exact m9 (u8 a).2⟩
 |mv _ a=>exact ⟨(u8 a).1,fun j hj=>by simp [k9] at hj;subst hj;exact m9 (u8 a).2⟩
 |short a b=>exact ⟨⟨(u8 a).1,(u8 b).1,_,_,_,_,_,(u8 b).2⟩,fun j hj=>by
   simp [k9] at hj
   rcases hj with rfl | rfl
   ·exact m9 (u8 a).2
   ·exact m9 (u8 b).2⟩
 |along a b=>exact ⟨⟨(u8 a).1,(u8 b).1⟩,fun j hj=>by
   simp [k9] at hj
   rcases hj with rfl | rfl
   ·exact m9 (u8 a).2
   ·exact m9 (u8 b).2⟩
theorem PR.fit(p:PR C st rs cs ws vs):∀ r ∈ rs,fitR cs r:=by
 induction p with
 |nil=>exact fun _ h=>nomatch h
 |snoc p h ih =>
  intro r' hr
  rcases List.mem_append.mp hr with z | z
  ·exact ((ih r' z).snoc _).1
  ·rw [List.mem_singleton.mp z];exact ((Cl.of h).parts.1.snoc _).1
theorem PR.fl(p:PR C st rs cs ws vs):Fl (rs.map (k9 cs)) ws vs:=by
 induction p with
 |nil=>exact .nil
 |@snoc rs cs ws vs r c p h ih =>
  obtain ⟨f,l⟩:=(Cl.of h).parts
  have e:(rs ++ [r]).map (k9 (cs ++ [c]))=rs.map (k9 cs) ++ [k9 cs r]:=by
   rw [List.map_append,List.map_cons,List.map_nil,(f.snoc c).2]
   congr 1
   exact List.map_congr_left fun x hx=>((p.fit x hx).snoc c).2
  rw [e];exact .snoc ih (by rw [List.length_map,<- p.lens.1];exact l)
theorem E8{α:Type}{xs:List α}{x y:α}{k:Nat}(h:(xs ++ [x])[k]?=some y):xs[k]?=some y\/(k=xs.length/\y=x):=by
 by_cases z:k < xs.length
 ·rw [List.getElem?_append_left z] at h;exact .inl h
 ·have:=m9 h
  rw [List.length_append,List.length_cons,List.length_nil] at this
  obtain rfl:k=xs.length:=by omega
  rw [List.getElem?_append_right (Nat.le_refl _)] at h
  simp at h
  exact .inr ⟨rfl,h.symm⟩
theorem PR.many(p:PR C st rs cs ws vs){r:Row}{c:Clm}(h:Cl C st cs r c):(C7 ws (k9 cs r)).length=match r with
  |.begin _ _=>0 | .start _=>0 | .mv _ k _ _=>(ws.getD k.toNat []).length + 1 | .short k _ j _=>(ws.getD k.toNat []).length + 1 + (ws.getD j.toNat []).length + 1 | .along k j=>(ws.getD k.toNat []).length + (ws.getD j.toNat []).length:=by
 cases h <;> simp [C7,k9,pF] <;> omega
theorem PR.takes(p:PR C st rs cs ws vs):∀ (k:Nat) (c:Clm) (w:List GM) (v:Nat),cs[k]?=some c->ws[k]?=some w->vs[k]?=some v->(match c with | Clm.within ..=>v=2 * w.length + 1 | Clm.at ..=>v <= 2 * w.length + 2 * k + 1:Prop):=by
 induction p with
 |nil=>intro k c w v h;simp at h
 |@snoc rs cs ws vs r c0 p h ih =>
  intro k c w v hc hw hv;obtain ⟨l1,l2,l3⟩:=p.lens
  rcases E8 hc with hc | ⟨e,hc⟩
  ·have:=m9 hc
   rcases E8 hw with hw | ⟨e,_⟩
   ·rcases E8 hv with hv | ⟨e,_⟩
    ·exact ih k c w v hc hw hv
    ·omega
   ·omega
  ·subst hc;subst e
   have hw:w=C7 ws (k9 cs r):=by
    rcases E8 hw with hw | ⟨_,e⟩
    ·have:=m9 hw;omega
    ·exact e
   have hv:v=1 + wt vs (k9 cs r):=by
    rcases E8 hv with hv | ⟨_,e⟩
    ·have:=m9 hv;omega
    ·exact e
   have wv:∀ {k:Int} {c:Clm},i7 cs k=some c->∃ w v,cs[k.toNat]?=some c/\ws[k.toNat]?=some w/\vs[k.toNat]?=some v/\k.toNat < cs.length:=fun {k c} a=>by
    obtain ⟨_,a⟩:=u8 a
    have:=m9 a
    exact ⟨_,_,a,List.getElem?_eq_getElem (by omega),List.getElem?_eq_getElem (by omega),this⟩
   have cl:=Cl.of h
   cases cl with
   |begin=>subst hw;subst hv;rfl
   |start=>subst hw;subst hv;simp [C7,k9,wt]
   |inn a =>
    obtain ⟨w1,v1,a1,a2,a3,a4⟩:=wv a
    have:=ih _ _ _ _ a1 a2 a3
    simp [C7,k9,pF,wt,pW,a2,a3] at hw hv this ⊢
    subst hw;subst hv
    simp;omega
   |mv _ a =>
    obtain ⟨w1,v1,a1,a2,a3,a4⟩:=wv a
    have:=ih _ _ _ _ a1 a2 a3
    simp [C7,k9,pF,wt,pW,a2,a3] at hw hv this ⊢
    subst hw;subst hv
    simp;omega
   |short a b =>
    obtain ⟨w1,v1,a1,a2,a3,a4⟩:=wv a;obtain ⟨w2,v2,b1,b2,b3,b4⟩:=wv b
    have:=ih _ _ _ _ a1 a2 a3
    have:=ih _ _ _ _ b1 b2 b3
    simp [C7,k9,pF,wt,pW,a2,a3,b2,b3] at hw hv this ⊢
    subst hw;subst hv
    simp;omega
   |along a b =>
    obtain ⟨w1,v1,a1,a2,a3,a4⟩:=wv a;obtain ⟨w2,v2,b1,b2,b3,b4⟩:=wv b
    have:=ih _ _ _ _ a1 a2 a3
    have:=ih _ _ _ _ b1 b2 b3
    simp [C7,k9,pF,wt,pW,a2,a3,b2,b3] at hw hv this ⊢
    subst hw;subst hv
    simp;omega
end
structure Spt where
 f:Nat
 p:Nat
 d:Nat
 c:Nat
abbrev Opn:=List (Nat×Edge)
inductive One(C:i9):Spt->Opn->GM->Spt->Opn->Prop
 |mv {f p d c:Nat} {o:Opn} {w:Mv} {n e:Int} {E:Edge}:w ≠ .inn->takes C f p d w n e=some E->One C ⟨f,p,d,c⟩ o (.go w n e) ⟨f,E.q,e.toNat,c + E.cost⟩ o
 |inn {f p d c g:Nat} {o:Opn} {n e:Int} {E:Edge} {i b v:List Nat}:takes C f p d .inn n e=some E->E.k = .call g i b v->One C ⟨f,p,d,c⟩ o (.go .inn n e) ⟨g,0,e.toNat,c + E.cost⟩ (o ++ [(f,E)])
 |out {f p d c hm:Nat} {o:Opn} {e:Int} {E:Edge} {i b v:List Nat} {F:Fn}:C[f]?=some F->p + 1=F.places->E.k = .call f i b v->br b d e=true->One C ⟨f,p,d,c⟩ (o ++ [(hm,E)]) (.out e) ⟨hm,E.q,e.toNat,c⟩ o
inductive Walk(C:i9):Spt->Opn->List GM->Spt->Opn->Prop
 |nil {s o}:Walk C s o [] s o
 |cons {s o g s1 o1 gs s2 o2}:One C s o g s1 o1->Walk C s1 o1 gs s2 o2->Walk C s o (g :: gs) s2 o2
theorem Walk.app{C:i9}{s o gs s1 o1 gs' s2 o2}(a:Walk C s o gs s1 o1)(b:Walk C s1 o1 gs' s2 o2):Walk C s o (gs ++ gs') s2 o2:=by
 induction a with
 |nil=>exact b
 |cons x _ ih=>exact .cons x (ih b)
def b0z(C:i9)(s:Spt):Prop:=∃ F,C[s.f]?=some F/\s.p < F.places/\s.d < F.facts
def b2b(C:i9)(o:Opn):Prop:=∀ x ∈ o,∃ F,C[x.1]?=some F/\x.2 ∈ F.edges
theorem P9{C:i9}(wf:WF C){f p d:Nat}{w:Mv}{n e:Int}{E:Edge}{F:Fn}(hF:C[f]?=some F)(hd:d < F.facts)(ht:takes C f p d w n e=some E):0 <= n/\F.edges[n.toNat]?=some E/\(E.isStep == (w == .step))=true/\E.p=p/\br (E.tab w) d e=true/\E.q < F.places/\0 <= e/\(w ≠ .inn->tOk (E.tab w) F.facts F.facts/\e.toNat < F.facts)/\(w = .inn->∃ g i b v G,E.k = .call g i b v/\C[g]?=some G/\tOk i F.facts G.facts/\tOk b G.facts F.facts/\e.toNat < G.facts):=by
 obtain ⟨h1,h2,h3,h4,h5⟩:=M6 ht;obtain ⟨F',h0,hF',hE⟩:=K3 h1;rw [hF] at hF';cases hF'
 obtain ⟨o1,o2,o3,o4,o5⟩:=(wf.fn f F hF).2.2.2.2.2 E (List.mem_of_getElem? hE);refine ⟨h0,hE,h2,h3,h4,o2,h5,fun hw=>?_,fun hw=>?_⟩
 ·obtain ⟨p',q',c',k'⟩:=E
  cases k' with
  |step t =>
   cases w with
   |step=>exact ⟨o5,a4f o5 hd h4⟩
   |inn=>exact absurd rfl hw
   |over=>cases h2
  |call g i b o =>
   obtain ⟨G,hG,t1,t2,t3⟩:=o5
   cases w with
   |step=>cases h2
   |inn=>exact absurd rfl hw
   |over=>exact ⟨t3,a4f t3 hd h4⟩
 ·subst hw;obtain ⟨p',q',c',k'⟩:=E
  cases k' with
  |step t=>cases h2
  |call g i b o =>
   obtain ⟨G,hG,t1,t2,t3⟩:=o5;exact ⟨g,i,b,o,G,rfl,hG,t1,t2,a4f t1 hd h4⟩
theorem One.ok{C:i9}(wf:WF C){s o g s1 o1}(a:One C s o g s1 o1)(hs:b0z C s)(ho:b2b C o):b0z C s1/\b2b C o1:=by
 obtain ⟨F,hF,hp,hd⟩:=hs
 cases a with
 |mv hw ht =>
  obtain ⟨_,_,_,_,_,a,_,b,_⟩:=P9 wf hF hd ht;exact ⟨⟨F,hF,a,(b hw).2⟩,ho⟩
 |inn ht hk =>
  obtain ⟨_,hE,_,_,_,a,_,_,b⟩:=P9 wf hF hd ht;obtain ⟨g,i,b,v,G,hk',hG,_,_,he⟩:=b rfl;rw [hk] at hk';cases hk'
  refine ⟨⟨G,hG,(wf.fn _ G hG).1,he⟩,fun x hx=>?_⟩
  rcases List.mem_append.mp hx with z | z
  ·exact ho x z
  ·rw [List.mem_singleton.mp z];exact ⟨F,hF,List.mem_of_getElem? hE⟩
 |@out f p d c hm o e E i b v F' hF' hp' hk hb =>
  obtain ⟨H,hH,hE⟩:=ho (hm,E) (List.mem_append_right _ List.mem_cons_self);obtain ⟨o1,o2,o3,o4,o5⟩:=(wf.fn hm H hH).2.2.2.2.2 E hE;rw [hk] at o5;obtain ⟨G,hG,t1,t2,t3⟩:=o5;have hF:C[f]?=some F:=hF;rw [hF] at hG;cases hG;exact ⟨⟨H,hH,o2,a4f t2 hd hb⟩,fun x hx=>ho x (List.mem_append_left _ hx)⟩
theorem First.snoc{rs:List Row}{r:Row}{k:Nat}{d:Int}(h:First rs k d):First (rs ++ [r]) k d:=by
 have up:∀ {k:Nat} {x:Row},rs[k]?=some x->(rs ++ [r])[k]?=some x:=fun {k x} h=>by rw [List.getElem?_append_left (m9 h)];exact h
 induction h with
 |start e=>exact .start (up e)
 |inn e l _ ih=>exact .inn (up e) l ih
 |along e l _ ih=>exact .along (up e) l ih
def Gone(C:i9)(st:Nat)(rs:List Row)(k:Nat)(w:List GM):Clm->Prop
 |.within f a p d x=>∀ c0 o,Walk C ⟨f,0,a,c0⟩ o w ⟨f,p,d,c0 + x⟩ o
 |.at f p d x=>∃ (a:Nat) (o:Opn) (F:Fn),First rs k (a:Int)/\C[0]?=some F/\a < F.facts/\st.testBit a=true/\Walk C ⟨0,0,a,0⟩ [] w ⟨f,p,d,x⟩ o
theorem Gone.snoc{C:i9}{st:Nat}{rs:List Row}{r:Row}{k:Nat}{w:List GM}{c:Clm}(h:Gone C st rs k w c):Gone C st (rs ++ [r]) k w c:=by
 cases c with
 |within=>exact h
 |«at»=>obtain ⟨a,o,F,h1,h2⟩:=h;exact ⟨a,o,F,h1.snoc,h2⟩
theorem PR.gone{C:i9}{st:Nat}{rs:List Row}{cs:List Clm}{ws:List (List GM)}{vs:List Nat}(p:PR C st rs cs ws vs):∀ k c w,cs[k]?=some c->ws[k]?=some w->Gone C st rs k w c:=by
 induction p with
 |nil=>intro k c w h;simp at h
 |@snoc rs cs ws vs r c0 p h ih =>
  intro k c w hc hw;obtain ⟨l1,l2,l3⟩:=p.lens
  rcases E8 hc with hc | ⟨e,hc⟩
  ·have:=m9 hc
   rcases E8 hw with hw | ⟨e,_⟩
   ·exact (ih k c w hc hw).snoc
   ·omega
  ·subst hc;subst e
   have hw:w=C7 ws (k9 cs r):=by
    rcases E8 hw with hw | ⟨_,e⟩
    ·have:=m9 hw;omega
    ·exact e
   have hr:(rs ++ [r])[cs.length]?=some r:=by rw [l1,List.getElem?_append_right (Nat.le_refl _)];simp
   have wv:∀ {k:Int} {c:Clm},i7 cs k=some c->∃ w,ws[k.toNat]?=some w/\Gone C st rs k.toNat w c/\k.toNat < cs.length/\k=((k.toNat:Nat):Int):=fun {k c} a=>by
    obtain ⟨k0,a⟩:=u8 a
    have:=m9 a
    exact ⟨_,List.getElem?_eq_getElem (by omega),ih _ _ _ a (List.getElem?_eq_getElem (by omega)),this,by omega⟩
   have cl:=Cl.of h
   cases cl with
   |begin=>subst hw;exact fun c0 o=>.nil
   |@start d F h0 hF hd hb =>
    subst hw;refine ⟨d.toNat,[],F,?_,hF,by omega,hb,.nil⟩;rw [Int.toNat_of_nonneg h0];exact .start hr
   |inn a ht hk =>
    obtain ⟨w1,a2,g,a4,a5⟩:=wv a;obtain ⟨a0,o,F,f1,f2,f3,f4,f5⟩:=g
    simp [C7,k9,pF,a2] at hw
    subst hw;exact ⟨a0,_,F,.inn (by rw [<- a5];exact hr) a4 f1.snoc,f2,f3,f4,f5.app (.cons (.inn ht hk) .nil)⟩
   |mv hw' a ht =>
    obtain ⟨w1,a2,g,a4,a5⟩:=wv a
    simp [C7,k9,pF,a2] at hw
    subst hw;intro c0 o;rw [<- Nat.add_assoc];exact (g c0 o).app (.cons (.mv hw' ht) .nil)
   |short a b ht hk hG hq hb =>
    obtain ⟨w1,a2,g,a4,a5⟩:=wv a;obtain ⟨w2,b2,g2,b4,b5⟩:=wv b;have ea:=(u8 b).2
    simp [C7,k9,pF,a2,b2,aOf,ea] at hw
    subst hw;intro c0 o;rw [<- Nat.add_assoc,<- Nat.add_assoc];refine (g c0 o).app (.cons (.inn ht hk) ?_);rw [Int.toNat_natCast];exact (g2 _ _).app (.cons (.out hG hq hk hb) .nil)
   |along a b =>
    obtain ⟨w1,a2,g,a4,a5⟩:=wv a;obtain ⟨w2,b2,g2,b4,b5⟩:=wv b;obtain ⟨a0,o,F,f1,f2,f3,f4,f5⟩:=g
    simp [C7,k9,pF,a2,b2] at hw
    subst hw;exact ⟨a0,_,F,.along (by rw [<- a5];exact hr) a4 f1.snoc,f2,f3,f4,f5.app (g2 _ _)⟩
end CM
namespace K33
open PySem L2 DL CM
local macro_rules | `(tactic| right) => `(tactic| first | decide | omega)
local macro_rules | `(tactic| simp only [VS]) => `(tactic| simp only [List.map_cons, List.map_nil, List.cons_append, List.nil_append, List.length_cons, List.length_nil, List.replicate, Nat.reduceSub, Nat.reduceAdd, Nat.zero_add, Nat.sub_self])
local macro_rules | `(tactic| left) => do
  let n := Lean.mkIdent `N
  let h := Lean.mkIdent `hN
  `(tactic| ((try dsimp only); refine D9 fun $n $h => ?_))
def vvA : String := "j8 d7 b7 dC dOp dUn k7 dTr O7 dOr M3 b2D b7u c0y dIf o9 l9 c0G F2 k6 a8m dCB l8 a8 c8 t9 dV dTk a5e b3m G3 D6 a0d U5 dSl U4 A8 a2c b6c c0J a6i B6 N6 b5s b9p O5 G2 F5 a7R b8U G4 M7 c0V c0d c0Y b9S c0v pI pI0 pB0 a2S pIs pIx pEq Q4 A0 a1r W5 a0D b1v b2q u0 b6O K6 pIn b6Z a3j a5h c0L c0l a1j c0X dXA c0r c0W b9x c0T b3g a2u b9f a3e a7f V4 a8t a1g reduceIte"
def vvB : String := "b0A a0h b8W b9J b8P b8Z b8N b9c b9a eqS List.map_cons List.map_nil List.cons_append List.nil_append List.length_cons List.length_nil List.replicate List.getElem?_cons_zero List.getElem?_cons_succ List.set_cons_zero List.set_cons_succ Option.getD_some Option.getD_none List.getElem?_nil Bool.false_eq_true Bool.not_true Bool.not_false if_true if_false ite_true ite_false eq_self_iff_true decide_true decide_false Nat.reduceSub Nat.reduceAdd Nat.sub_zero Nat.sub_self Nat.zero_add Option.map_some Option.map_none Option.bind_some Option.bind_none b7Z b6C b5T b7n b8Q b8O b8J b6G b6h b6W b9b b8X b8V b8S b8Y b8R b6M b5D b7B b9d b8M b8T b9h b9e b6F b7m b6K b6E b6H b6L a5c a5R a5D a3N a4i a4b a9P b0n b1l a8n a9o a9y b2p b2Q b2O a9z b1D b1X b1r b3q b2I a9E b0G b0k a6x a9u a9A a6b a8p a6D a9R b2n b1B a7M a9Q a9J a9M b0b b0i a7W a9L a9U b9D c0m c0c c0j c0C c0k c0N c0U c0z c0p c0n c0M c0O c0I c0s c0R c0x c0u c0Q c0A c0i c0t c0P c0g c0h c0f c0E c0o c0K c0S c0q c0H c0B c0w c0b c0F c0D c0e Z3 a1q a1K a3r b0O a0J a0C a9H a9W a9d b4C b3r a4y a1x a1s b4M b0S a9p a9V a9T a9B a9j b5Z b2T b3n b3Q b4b b7z b4o a2R a2H b2N b3a b0a b7s b6B a4u b0Y b1Q a3Q b1O a0A a0H a9C a9O a6C b4g b3u a9g a9r a9w b2J a9t a7E a8o a8j a6X a6c b2M b1P a8f a9D a9I b3i a9N a8X a7u a8R a8a a6d b2S b0t a7d a9S a9F b2F a9q a7T a6E a8K a7i a6e b3s b0L a7L a9v a9K b2H a9G a6M a8i a8W a8Q a6h b3e b2h a5C a8q a6m b1U a8z a6f a5Z a6g a6a a5U b2r a9s b7p b4Q b4w b7H b3X b3h b3t b2R b3b b1K b7v b6I b9N b2V b3k b6D b3c b2t b1Z b0h b0c a9x b6J b6p Bool.and_self Bool.and_true"
local macro_rules | `(tactic| simp only [VV]) => do
  let as := ((vvA.splitOn " ")).toArray.map fun s => Lean.mkIdent s.toName
  let bs := ((vvB.splitOn " ")).toArray.map fun s => Lean.mkIdent s.toName
  `(tactic| simp only [$[↓$as:ident],*, $[$bs:ident],*])
local macro_rules | `(tactic| simp only [$xs,*, VV]) => do
  let as := ((vvA.splitOn " ")).toArray.map fun s => Lean.mkIdent s.toName
  let bs := ((vvB.splitOn " ")).toArray.map fun s => Lean.mkIdent s.toName
  `(tactic| simp only [$xs,*, $[↓$as:ident],*, $[$bs:ident],*])
local macro_rules | `(tactic| simp only [VV0]) => do
  let as := ((vvA.splitOn " ").filter (fun s => !(["o9"] : List String).contains s)).toArray.map fun s => Lean.mkIdent s.toName
  let bs := ((vvB.splitOn " ").filter (fun s => !(["o9"] : List String).contains s)).toArray.map fun s => Lean.mkIdent s.toName
  `(tactic| simp only [$[↓$as:ident],*, $[$bs:ident],*])
local macro_rules | `(tactic| simp only [$xs,*, VV0]) => do
  let as := ((vvA.splitOn " ").filter (fun s => !(["o9"] : List String).contains s)).toArray.map fun s => Lean.mkIdent s.toName
  let bs := ((vvB.splitOn " ").filter (fun s => !(["o9"] : List String).contains s)).toArray.map fun s => Lean.mkIdent s.toName
  `(tactic| simp only [$xs,*, $[↓$as:ident],*, $[$bs:ident],*])
local macro_rules | `(tactic| simp only [VV1]) => do
  let as := ((vvA.splitOn " ").filter (fun s => !(["eqS", "pEq"] : List String).contains s)).toArray.map fun s => Lean.mkIdent s.toName
  let bs := ((vvB.splitOn " ").filter (fun s => !(["eqS", "pEq"] : List String).contains s)).toArray.map fun s => Lean.mkIdent s.toName
  `(tactic| simp only [$[↓$as:ident],*, $[$bs:ident],*])
local macro_rules | `(tactic| simp only [$xs,*, VV1]) => do
  let as := ((vvA.splitOn " ").filter (fun s => !(["eqS", "pEq"] : List String).contains s)).toArray.map fun s => Lean.mkIdent s.toName
  let bs := ((vvB.splitOn " ").filter (fun s => !(["eqS", "pEq"] : List String).contains s)).toArray.map fun s => Lean.mkIdent s.toName
  `(tactic| simp only [$xs,*, $[↓$as:ident],*, $[$bs:ident],*])
def top(i:Nat):Stmt:=PySem.Challenge.pw_callmatch_k33_whole_unrolled.main.body.getD i (.Pass ⟨0,0,0,0⟩)
def b7f:Stmt->Nat->Stmt
 |.ClassDef _ _ _ body _ _ _ _ _ _ _,k=>body.getD k (.Pass ⟨0,0,0,0⟩)
 |s,_=>s
abbrev a7z:Stmt:=top 10
abbrev a6T:Stmt:=top 14
abbrev a6k:Stmt:=top 15
abbrev a8e:Stmt:=top 20
abbrev a7v:Stmt:=top 21
abbrev a7X:Stmt:=top 27
abbrev a8B:Stmt:=top 31
abbrev a8O:Stmt:=top 32
abbrev a6J:Stmt:=top 33
abbrev a6t:Stmt:=top 11
abbrev a8V:Stmt:=top 22
abbrev a8s:Stmt:=top 26
abbrev a7a:Stmt:=top 30
abbrev a8T:Stmt:=top 16
abbrev a7Q:Stmt:=top 23
abbrev a8M:Stmt:=top 24
abbrev a7t:Stmt:=top 25
abbrev a9k:Stmt:=top 19
abbrev a7q:Stmt:=top 18
abbrev V3:Stmt:=top 29
abbrev b5m:Stmt:=top 35
abbrev a9a:Stmt:=top 37
abbrev b5P:Stmt:=top 38
abbrev b4J:Stmt:=top 42
abbrev b4u:Stmt:=top 43
abbrev a6P:Stmt:=top 36
abbrev a8w:Stmt:=top 39
abbrev b4H:Stmt:=top 40
abbrev b4Z:Stmt:=top 41
abbrev a7V:Stmt:=top 44
abbrev a6o:Stmt:=top 45
abbrev b5d:Stmt:=top 47
abbrev b5o:Stmt:=top 46
abbrev a8r:Stmt:=top 48
abbrev a6n:Stmt:=top 50
abbrev a9m:Stmt:=top 51
abbrev a7y:Stmt:=top 49
abbrev a7U:Stmt:=top 52
abbrev a9c:Stmt:=top 53
abbrev b3w:Stmt:=top 54
abbrev b3V:Stmt:=top 55
abbrev V0:Stmt:=top 56
theorem b6s:j6 ["mask"] ["mask"] (d9 a7z):=⟨rfl,rfl,rfl,by decide +kernel,rfl,by decide +kernel,by decide +kernel⟩
theorem b4t:j6 ["chart","f"] ["chart","f"] (d9 a6T):=⟨rfl,rfl,rfl,by decide +kernel,rfl,by decide +kernel,by decide +kernel⟩
theorem b5H:j6 ["chart","start"] ["chart","start"] (d9 a6k):=⟨rfl,rfl,rfl,by decide +kernel,rfl,by decide +kernel,by decide +kernel⟩
theorem b4h:j6 ["ahead","k","sort"] ["ahead","k","sort"] (d9 a8e):=⟨rfl,rfl,rfl,by decide +kernel,rfl,by decide +kernel,by decide +kernel⟩
theorem sc_q22:j6 ["chart","row","f","d"] ["chart","row"] (d9 a7v):=⟨rfl,rfl,rfl,by decide +kernel,rfl,by decide +kernel,by decide +kernel⟩
theorem b4O:j6 ["row"] ["row"] (d9 a7X):=⟨rfl,rfl,rfl,by decide +kernel,rfl,by decide +kernel,by decide +kernel⟩
theorem sc_q27:j6 ["parts","most","many","row_parts","total","part"] ["parts","most"] (d9 a8B):=⟨rfl,rfl,rfl,by decide +kernel,rfl,by decide +kernel,by decide +kernel⟩
theorem sc_q32:j6 ["rows","k"] ["rows","k"] (d9 a8O):=⟨rfl,rfl,rfl,by decide +kernel,rfl,by decide +kernel,by decide +kernel⟩
theorem sc_q36:j6 ["parts","k","moves","waiting","part"] ["parts","k"] (d9 a6J):=⟨rfl,rfl,rfl,by decide +kernel,rfl,by decide +kernel,by decide +kernel⟩
theorem b3F:j6 ["table","d","e"] ["table","d","e"] (d9 a6t):=⟨rfl,rfl,rfl,by decide +kernel,rfl,by decide +kernel,by decide +kernel⟩
theorem sc_q39:j6 ["chart","start","row","d"] ["chart","start","row"] (d9 a8V):=⟨rfl,rfl,rfl,by decide +kernel,rfl,by decide +kernel,by decide +kernel⟩
theorem sc_q21:j6 ["ahead","row","base","moved","f"] ["ahead","row"] (d9 a8s):=⟨rfl,rfl,rfl,by decide +kernel,rfl,by decide +kernel,by decide +kernel⟩
theorem b5c:j6 ["told","row"] ["told","row"] (d9 a7a):=⟨rfl,rfl,rfl,by decide +kernel,rfl,by decide +kernel,by decide +kernel⟩
theorem sc_q29:j6 ["chart","here","move","edges","n","edge"] ["chart","here","move"] (d9 a8T):=⟨rfl,rfl,rfl,by decide +kernel,rfl,by decide +kernel,by decide +kernel⟩
theorem sc_q28:j6 ["chart","ahead","row","base","f","edge"] ["chart","ahead","row"] (d9 a7Q):=⟨rfl,rfl,rfl,by decide +kernel,rfl,by decide +kernel,by decide +kernel⟩
theorem sc_q38:j6 ["chart","ahead","row","base","called","f","edge"] ["chart","ahead","row"] (d9 a8M):=⟨rfl,rfl,rfl,by decide +kernel,rfl,by decide +kernel,by decide +kernel⟩
theorem sc_q33:j6 ["chart","ahead","row","base","edge"] ["chart","ahead","row"] (d9 a7t):=⟨rfl,rfl,rfl,by decide +kernel,rfl,by decide +kernel,by decide +kernel⟩
theorem b5W:j6 ["chart","start","ahead","row"] ["chart","start","ahead","row"] (d9 a9k):=⟨rfl,rfl,rfl,by decide +kernel,rfl,by decide +kernel,by decide +kernel⟩
theorem sc_q26:j6 ["chart","start","rows","told","row","claim"] ["chart","start","rows"] (d9 a7q):=⟨rfl,rfl,rfl,by decide +kernel,rfl,by decide +kernel,by decide +kernel⟩
theorem sc_q41:j6 ["chart","start","rows","k","most","ahead","told","parts"] ["chart","start","rows","k","most"] (d9 V3):=⟨rfl,rfl,rfl,by decide +kernel,rfl,by decide +kernel,by decide +kernel⟩
theorem sc_q2:j6 ["_law_script","_law_k","_law_number"] ["_law_script","_law_k"] (d9 b5m):=⟨rfl,rfl,rfl,by decide +kernel,rfl,by decide +kernel,by decide +kernel⟩
theorem sc_q12:j6 ["_law_state_here","_law_many_here","_law_number","_law_one"] ["_law_state_here","_law_many_here"] (d9 a9a):=⟨rfl,rfl,rfl,by decide +kernel,rfl,by decide +kernel,by decide +kernel⟩
theorem b8D:j6 ["_law_mask"] ["_law_mask"] (d9 b5P):=⟨rfl,rfl,rfl,by decide +kernel,rfl,by decide +kernel,by decide +kernel⟩
theorem b7t:j6 ["_law_table_here","_law_one","_law_other"] ["_law_table_here","_law_one","_law_other"] (d9 b4J):=⟨rfl,rfl,rfl,by decide +kernel,rfl,by decide +kernel,by decide +kernel⟩
theorem b7E:j6 ["_law_chart_here","_law_f","_law_n","_law_sort","_law_p"] ["_law_chart_here","_law_f","_law_n","_law_sort","_law_p"] (d9 b4u):=⟨rfl,rfl,rfl,by decide +kernel,rfl,by decide +kernel,by decide +kernel⟩
theorem sc_q18:j6 ["_law_script","_law_k","_law_cell_here","_law_free"] ["_law_script","_law_k"] (d9 a6P):=⟨rfl,rfl,rfl,by decide +kernel,rfl,by decide +kernel,by decide +kernel⟩
theorem sc_q19:j6 ["_law_state_here","_law_many_here","_law_facts_here","_law_free","_law_masks","_law_d","_law_mask"] ["_law_state_here","_law_many_here","_law_facts_here"] (d9 a8w):=⟨rfl,rfl,rfl,by decide +kernel,rfl,by decide +kernel,by decide +kernel⟩
theorem sc_q6:j6 ["_law_state_here","_law_heads","_law_f","_law_free","_law_places","_law_facts_here","_law_p","_law_q","_law_cost","_law_g","_law_others","_law_into","_law_home","_law_past"] ["_law_state_here","_law_heads","_law_f"] (d9 b4H):=⟨rfl,rfl,rfl,by decide +kernel,rfl,by decide +kernel,by decide +kernel⟩
theorem sc_q4:j6 ["_law_script","_law_sizes","_law_gap","_law_functions","_law_places","_law_facts_here","_law_many_here","_law_state_here","_law_heads","_law_f","_law_edges","_law_at"] ["_law_script","_law_sizes","_law_gap"] (d9 b4Z):=⟨rfl,rfl,rfl,by decide +kernel,rfl,by decide +kernel,by decide +kernel⟩
theorem sc_q17:j6 ["_law_chart_here","_law_one","_law_n","_law_other","_law_e","_law_edge_here"] ["_law_chart_here","_law_one","_law_n","_law_other","_law_e"] (d9 a7V):=⟨rfl,rfl,rfl,by decide +kernel,rfl,by decide +kernel,by decide +kernel⟩
theorem sc_q13:j6 ["_law_chart_here","_law_one","_law_sort","_law_n","_law_e","_law_word","_law_edge_here"] ["_law_chart_here","_law_one","_law_sort","_law_n","_law_e"] (d9 a6o):=⟨rfl,rfl,rfl,by decide +kernel,rfl,by decide +kernel,by decide +kernel⟩
theorem sc_q9:j6 ["_law_chart_here","_law_done","_law_edge_here","_law_d","_law_found","_law_last","_law_j","_law_one"] ["_law_chart_here","_law_done","_law_edge_here","_law_d"] (d9 b5d):=⟨rfl,rfl,rfl,by decide +kernel,rfl,by decide +kernel,by decide +kernel⟩
theorem sc_q5:j6 ["_law_chart_here","_law_start","_law_done","_law_row","_law_one","_law_j"] ["_law_chart_here","_law_start","_law_done","_law_row"] (d9 b5o):=⟨rfl,rfl,rfl,by decide +kernel,rfl,by decide +kernel,by decide +kernel⟩
theorem sc_q16:j6 ["_law_chart_here","_law_done","_law_k","_law_one","_law_f","_law_p","_law_d","_law_found","_law_some","_law_n","_law_edge_here","_law_word"] ["_law_chart_here","_law_done","_law_k"] (d9 a8r):=⟨rfl,rfl,rfl,by decide +kernel,rfl,by decide +kernel,by decide +kernel⟩
theorem sc_q10:j6 ["_law_rows","_law_many_here","_law_row","_law_found"] ["_law_rows"] (d9 a6n):=⟨rfl,rfl,rfl,by decide +kernel,rfl,by decide +kernel,by decide +kernel⟩
theorem sc_q11:j6 ["_law_chart_here","_law_here","_law_opened","_law_move","_law_f","_law_p","_law_d","_law_cost","_law_home","_law_edge_here"] ["_law_chart_here","_law_here","_law_opened","_law_move"] (d9 a9m):=⟨rfl,rfl,rfl,by decide +kernel,rfl,by decide +kernel,by decide +kernel⟩
theorem sc_q14:j6 ["_law_script","_law_chart_here","_law_start","_law_cells","_law_rows","_law_done","_law_facts_here","_law_at","_law_state_here","_law_kind","_law_f","_law_row","_law_k","_law_some"] ["_law_script","_law_chart_here","_law_start","_law_cells"] (d9 a7y):=⟨rfl,rfl,rfl,by decide +kernel,rfl,by decide +kernel,by decide +kernel⟩
theorem sc_q20:j6 ["_law_chart_here","_law_start","_law_found","_law_claim_here","_law_many_here","_law_here","_law_opened","_law_move"] ["_law_chart_here","_law_start","_law_found","_law_claim_here","_law_many_here"] (d9 a7U):=⟨rfl,rfl,rfl,by decide +kernel,rfl,by decide +kernel,by decide +kernel⟩
theorem sc_q15:j6 ["_law_chart_here","_law_start","_law_rows","_law_k","_law_most","_law_caught","_law_e"] ["_law_chart_here","_law_start","_law_rows","_law_k","_law_most"] (d9 a9c):=⟨rfl,rfl,rfl,by decide +kernel,rfl,by decide +kernel,by decide +kernel⟩
theorem sc_q0:j6 ["_law_chart_here","_law_start","_law_rows","_law_k","_law_most","_law_told","_law_claim_here","_law_many_here"] ["_law_chart_here","_law_start","_law_rows","_law_k","_law_most","_law_told"] (d9 b3w):=⟨rfl,rfl,rfl,by decide +kernel,rfl,by decide +kernel,by decide +kernel⟩
theorem sc_q3:j6 ["_law_state_here","_law_steps","_law_cost","_law_chart_here","_law_rows","_law_k","_law_claim_here","_law_most"] ["_law_state_here"] (d9 b3V):=⟨rfl,rfl,rfl,by decide +kernel,rfl,by decide +kernel,by decide +kernel⟩
theorem sc_q34:j6 ["_law_script","_law_state_here","_law_chart_here","_law_start","_law_cells","_law_rows","_law_done","_law_many_here","_law_handed","_law_ats","_law_drawn","_law_k","_law_told","_law_near","_law_most"] ["_law_script"] (d9 V0):=⟨rfl,rfl,rfl,by decide +kernel,rfl,by decide +kernel,by decide +kernel⟩
def k_MOVE_TABLES:List (Key×Int):=[(.inr "step",4),(.inr "in",5),(.inr "over",7)]
structure Txt(P:Program)(w:World)(K:PySem.W.Frag)(mg:Str->Option Value):Prop where
 b_ValueError:mg "ValueError" = none
 b_abs:mg "abs" = none
 b_bool:mg "bool" = none
 b_enumerate:mg "enumerate" = none
 b_int:mg "int" = none
 b_isinstance:mg "isinstance" = none
 b_len:mg "len" = none
 b_list:mg "list" = none
 b_max:mg "max" = none
 b_min:mg "min" = none
 b_range:mg "range" = none
 b_reversed:mg "reversed" = none
 b_tuple:mg "tuple" = none
 c_MOVE_TABLES:∃ a,mg "MOVE_TABLES" = some (.ref a)/\a4L P w K a (k_MOVE_TABLES.map fun p=>(p.1,V.int p.2))
 k_CallError:a1J K mg "CallError" "NoPaper"
 k2_CallError:a1J K mg "CallError" "TooLong"
 x_NoPaper:L8 K "NoPaper"
 x_TooLong:L8 K "TooLong"
 i_NoChart:∃ CX,mg "NoChart" = some (.ref CX)/\IsX K "NoPaper" (.ref CX) false
 j_NoChart:∃ CX,mg "NoChart" = some (.ref CX)/\IsX K "TooLong" (.ref CX) false
 i_NoName:∃ CX,mg "NoName" = some (.ref CX)/\IsX K "NoPaper" (.ref CX) false
 j_NoName:∃ CX,mg "NoName" = some (.ref CX)/\IsX K "TooLong" (.ref CX) false
 i_NoPaper:∃ CX,mg "NoPaper" = some (.ref CX)/\IsX K "NoPaper" (.ref CX) true
 j_NoPaper:∃ CX,mg "NoPaper" = some (.ref CX)/\IsX K "TooLong" (.ref CX) false
 i_NoTable:∃ CX,mg "NoTable" = some (.ref CX)/\IsX K "NoPaper" (.ref CX) false
 j_NoTable:∃ CX,mg "NoTable" = some (.ref CX)/\IsX K "TooLong" (.ref CX) false
 i_NoText:∃ CX,mg "NoText" = some (.ref CX)/\IsX K "NoPaper" (.ref CX) false
 j_NoText:∃ CX,mg "NoText" = some (.ref CX)/\IsX K "TooLong" (.ref CX) false
 i_NoWay:∃ CX,mg "NoWay" = some (.ref CX)/\IsX K "NoPaper" (.ref CX) false
 j_NoWay:∃ CX,mg "NoWay" = some (.ref CX)/\IsX K "TooLong" (.ref CX) false
 i_TooLong:∃ CX,mg "TooLong" = some (.ref CX)/\IsX K "NoPaper" (.ref CX) false
 j_TooLong:∃ CX,mg "TooLong" = some (.ref CX)/\IsX K "TooLong" (.ref CX) true
 i_ValueError:IsX K "NoPaper" (.type "ValueError") true
 j_ValueError:IsX K "TooLong" (.type "ValueError") true
 a_row:b3d K "NoPaper" "row"
abbrev p8:Stmt:=b7f (top 7) 0
theorem T1:j6 ["self","row"] ["self","row"] (d9 p8):=⟨rfl,rfl,rfl,by decide +kernel,rfl,by decide +kernel,by decide +kernel⟩
theorem S8{P:Program}{w:World}{K:PySem.W.Frag}{mg:Str->Option Value}{base:Heap}{C0 C f:Addr}{fd:FuncData}(F:Fun K "__init__" "NoPaper.__init__" p8 f fd)(hb:mg "CallError" = some (.ref C0))(b:b2Y K C0)(c:XCls K C f)(n0:a2f K C "row"):u7 P w K mg base CX0 1 f fd ["self","row"] (spI C ["row"]):=by
 refine F.ok T1 (fun vs H Q E h=>?_) fun cdv A outer s H vs Q E hr h=>?_
 ·obtain ⟨e,is,rfl,hl,_⟩:=h;rw [List.length_cons,List.length_map,hl];rfl
 ·obtain ⟨e,is,rfl,hl,hs,he,k⟩:=h
  match is,hl,hs,k with
  |[i0],_,hs,k =>
  refine ⟨_,a3a (a4E (a6l (X:=(Z2 CX0 P w K mg base ["self","row"] "NoPaper.__init__" (d9 p8) f cdv A outer s H E).nox) rfl hb b (A4 (pv 0) (A4 (a1k (a1C a0j (a3P (pv 1) a8d))) N7)))) (a5f (b9v (pv 0) (pv 1))),?_⟩;exact ⟨_,rfl,⟨⟨i0,rfl,hs _ (by simp)⟩,trivial⟩,fun txt=>⟨e,C,f,txt,none,rfl,c,he,⟨_,rfl,_,rfl,e,C,f,i0,rfl,rfl,c,n0,.inl ⟨he,fun dx h1 h2=>k dx h1 h2⟩⟩⟩⟩
section
variable {P:Program} {w:World} {K:PySem.W.Frag} {mg:Str->Option Value} {base:Heap}
def a2m:DS:=(l9 (dV (G4 [none,some 0] (F5 (a8 (b3m (b7 0)) c8)) (d7 0) (dTr (dOp R7 (dOp a2i (b7 1) (b7 0)) (dC (.int 1)))) (b7 0))))
def a4k:DSp:=fun ds h Q=>∃ m:Nat,ds=[nD m]/\m < 2 ^ 60/\Q (.lst ((a1Q m).map nD)) h
theorem b2v:∀ ds h Q,a4k ds h Q->k8 1 a2m ds h Q:=by
 rintro ds h Q ⟨m,rfl,hm,q⟩
 have hb:=b1S hm;simp only [↓a2m,↓k8,↓d8,↓q8,VV];refine ⟨⟨by right,by right⟩,by rw [w4];omega,?_⟩;rw [v9];refine a0U (fun d=>m.testBit d) nD Src.ok_nil none (fun y hy K k=>?_) (fun y hy _ K k=>?_) ?_
 ·simp only [↓a2m,↓k8,↓d8,↓q8,VV];refine ⟨by right,?_⟩;rw [show ((0:Int) + (y:Nat)).toNat=y by right,b8x];exact k
 ·simp only [↓a2m,↓k8,↓d8,↓q8,VV];rw [Int.zero_add];exact k
 ·rw [Int.toNat_natCast];exact q
theorem b3z{f:Addr}{fd:FuncData}(F:Fun K "facts_in" "facts_in" a7z f fd)(T:Txt P w K mg):u7 P w K mg base CX0 1 f fd ["mask"] (spD K 1 a4k) :=
 z8 (k:=0) (b:=a2m) F b6s (fun cdv A outer s H E hr=>by
  refine d0 ?_;refine g9 ?_;refine C9 ?_;exact F4 rfl (N':= ["d","mask"]) (js:=[none,some 0]) ⟨rfl,by decide +kernel,rfl,rfl,rfl⟩ (B0 rfl T.b_range (a7 (b0x (sv 0)) b8)) (fun s0 H0 fp=>⟨(j9 (i:=0) (show (["d","mask"]:List Str).Nodup by decide +kernel) rfl (Or.inl rfl)),(a0m (o8 (g8 J5 (g8 S4 (sv 1) (sv 0)) a9))),(sv 0)⟩)) b2v
def a7e:DS:=(l9 (dOp M2 (dOp pIx (dOp pIx (b7 0) (b7 1)) (dC (.int 0))) (dC (.int 1))))
def a4j:DSp:=fun ds h Q=>∃ (c:D) (C:i9) (f:Nat) (F:Fn),ds=[c,nD f]/\ChD h c C/\C[f]?=some F/\Q (.int ((F.places:Int) - 1)) h
theorem b0l:∀ ds h Q,a4j ds h Q->k8 2 a7e ds h Q:=by
 rintro ds h Q ⟨c,C,f,F,rfl,hc,hf,q⟩
 obtain ⟨x,e1,e2⟩:=hc.fn hf;simp only [e1,↓a7e,↓k8,↓d8,↓q8,VV];exact q
theorem b5B{f:Addr}{fd:FuncData}(F:Fun K "exit_of" "exit_of" a6T f fd)(T:Txt P w K mg):u7 P w K mg base CX0 1 f fd ["chart","f"] (spD K 2 a4j) :=
 z8 (k:=0) (b:=a7e) F b4t (fun cdv A outer s H E hr=>by
  refine d0 ?_;refine g9 ?_;exact g8 C8 (c7 c6 (c7 c6 (sv 0) (sv 1)) a9) a9) b0l
def a2O:DS:=(l9 (dV (G4 [none,some 1] (F5 (a8 (dOp pIx (dOp pIx (b7 0) (dC (.int 0))) (dC (.int 1))) c8)) (d7 0) (dTr (dOp R7 (dOp a2i (b7 1) (b7 0)) (dC (.int 1)))) (b7 0))))
def a4F:DSp:=fun ds h Q=>∃ (c:D) (C:i9) (st:Nat) (F:Fn),ds=[c,nD st]/\ChD h c C/\C[0]?=some F/\F.facts <= 6/\Q (.lst (((List.range F.facts).filter fun d=>st.testBit d).map nD)) h
theorem b0s:∀ ds h Q,a4F ds h Q->k8 2 a2O ds h Q:=by
 rintro ds h Q ⟨c,C,st,F,rfl,hc,hf,h6,q⟩
 obtain ⟨x,e1,e2⟩:=hc.fn hf;have e1:ixD h c (.int 0)=some (.tup [nD F.places,nD F.facts,x]):=e1;simp only [e1,↓a2O,↓k8,↓d8,↓q8,VV];refine ⟨⟨by right,by right⟩,by rw [w4];omega,?_⟩;rw [v9];refine a0U (fun d=>st.testBit d) nD Src.ok_nil none (fun y hy K k=>?_) (fun y hy _ K k=>?_) ?_
 ·simp only [↓a2O,↓k8,↓d8,↓q8,VV];refine ⟨by right,?_⟩;rw [show ((0:Int) + (y:Nat)).toNat=y by right,b8x];exact k
 ·simp only [↓a2O,↓k8,↓d8,↓q8,VV];rw [Int.zero_add];exact k
 ·rw [Int.toNat_natCast];exact q
theorem b6x{f:Addr}{fd:FuncData}(F:Fun K "start_facts" "start_facts" a6k f fd)(T:Txt P w K mg):u7 P w K mg base CX0 1 f fd ["chart","start"] (spD K 2 a4F) :=
 z8 (k:=0) (b:=a2O) F b5H (fun cdv A outer s H E hr=>by
  refine d0 ?_;refine g9 ?_;refine C9 ?_;exact F4 rfl (N':= ["d","start"]) (js:=[none,some 1]) ⟨rfl,by decide +kernel,rfl,rfl,rfl⟩ (B0 rfl T.b_range (a7 (c7 c6 (c7 c6 (sv 0) a9) a9) b8)) (fun s0 H0 fp=>⟨(j9 (i:=0) (show (["d","start"]:List Str).Nodup by decide +kernel) rfl (Or.inl rfl)),(a0m (o8 (g8 J5 (g8 S4 (sv 1) (sv 0)) a9))),(sv 0)⟩)) b0s
def a7l:DS:=(d8 (o9 (O7 (k7 (D6 pLe Q4 (dC (.int 0)) (b7 1) (dCB A0 (a8 (b7 0) c8)))) (k7 (dOp (pEq false) (dOp pIx (dOp pIx (b7 0) (b7 1)) (dC (.int 0))) (b7 2)))) (l9 (dOp pIx (b7 0) (b7 1))) k6)
  (l9 (dC .non)))
def isW:Clm->Bool | .within _ _ _ _ _=>true | .at _ _ _ _=>false
def bw:Bool->Str | true=> "within" | false=> "at"
def A7(cs:List Clm)(k:Int)(w:Bool):Option Clm:=(i7 cs k).bind fun c=>if isW c=w then some c else none
def O1:DSp:=fun ds h Q=>∃ (a:D) (cs:List Clm) (k:Int) (w:Bool),ds=[a,.int k,.str (bw w)]/\w6 h a=some (cs.map clD)/\Q (oD clD (A7 cs k w)) h
theorem b1q:∀ ds h Q,O1 ds h Q->k8 3 a7l ds h Q:=by
 rintro ds h Q ⟨a,cs,k,w,rfl,ha,q⟩
 delta k8 q8 a7l;simp only [VS];left
 by_cases h0:0 <= k
 ·by_cases h1:k < cs.length
  ·have hl:k.toNat < cs.length:=by right
   obtain ⟨c,hE⟩:∃ E,cs[k.toNat]?=some E:=⟨_,List.getElem?_eq_getElem hl⟩
   have ax:atI (cs.map clD) k=some (clD c):=by rw [T6 h0,List.getElem?_map,hE];rfl
   have eq:A7 cs k w=if isW c=w then some c else none:=by unfold A7 i7;rw [if_pos h0,hE];rfl
   rw [eq] at q
   cases c <;> cases w
   all_goals simp only [p6 ha,List.length_map,h0,h1,r9 ha,ax,clD,bw,VV]
   all_goals first | exact q | (subst hN;exact q)
  ·have eq:A7 cs k w=none:=by unfold A7 i7;rw [if_pos h0,List.getElem?_eq_none (by right)];rfl
   rw [eq] at q;simp only [p6 ha,List.length_map,h0,h1,VV];subst hN;exact q
 ·have eq:A7 cs k w=none:=by unfold A7 i7;rw [if_neg h0];rfl
  rw [eq] at q;simp only [p6 ha,List.length_map,h0,VV];subst hN;exact q
theorem U6{cs:List Clm}{k:Int}{c:Clm}(h:A7 cs k true=some c):∃ f a p d x,c = .within f a p d x/\i7 cs k=some (.within f a p d x):=by
 unfold A7 at h
 cases q:i7 cs k with
 |none=>rw [q] at h;cases h
 |some e =>
  rw [q] at h
  cases e with
  |within f a p d x=>cases h;exact ⟨f,a,p,d,x,rfl,rfl⟩
  |«at» f p d x=>cases h
theorem a2F{cs:List Clm}{k:Int}{c:Clm}(h:A7 cs k false=some c):∃ f p d x,c = .at f p d x/\i7 cs k=some (.at f p d x):=by
 unfold A7 at h
 cases q:i7 cs k with
 |none=>rw [q] at h;cases h
 |some e =>
  rw [q] at h
  cases e with
  |within f a p d x=>cases h
  |«at» f p d x=>cases h;exact ⟨f,p,d,x,rfl,rfl⟩
theorem Q1{cs:List Clm}{k:Int}(h:A7 cs k true=none):∀ f a p d x,i7 cs k ≠ some (.within f a p d x):=fun f a p d x z=>by
 unfold A7 at h;rw [z] at h;cases h
theorem a0Q{cs:List Clm}{k:Int}(h:A7 cs k false=none):∀ f p d x,i7 cs k ≠ some (.at f p d x):=fun f p d x z=>by
 unfold A7 at h;rw [z] at h;cases h
theorem b6d{f:Addr}{fd:FuncData}(F:Fun K "claim_ahead" "claim_ahead" a8e f fd)(T:Txt P w K mg):u7 P w K mg base CX0 1 f fd ["ahead","k","sort"] (spD K 3 O1) :=
 z8 (k:=0) (b:=a7l) F b4h (fun cdv A outer s H E hr=>by
  refine b9 ?_ (d0 (g9 l7));refine p7 ?_ (d0 (g9 (c7 c6 (sv 0) (sv 1)))) g6;exact F1 (E3 (B3 K5 F8 a9 (sv 1) (f9 n8 rfl T.b_len PySem.boot_len (a7 (sv 0) b8))) (E1 (e7 (o7 hr.units) (c7 c6 (c7 c6 (sv 0) (sv 1)) a9) (sv 2))))) b1q
def a8c:DS:=(d8 (j8 (dOp pIx (b7 1) (dC (.int 1))) (d7 2))
  (d8 (j8 (dOp pIx (b7 1) (dC (.int 2))) (d7 3))
  (d8 (o9 (O7 (k7 (D6 pLe Q4 (dC (.int 0)) (b7 2) (dCB A0 (a8 (b7 0) c8)))) (k7 (D6 pLe Q4 (dC (.int 0)) (b7 3) (dOp pIx (dOp pIx (b7 0) (b7 2)) (dC (.int 1)))))) (l9 (t9 (a8 (dC (.str "within")) (a8 (b7 2) (a8 (b7 3) (a8 (dC (.int 0)) (a8 (b7 3) (a8 (dC (.int 0)) c8)))))))) k6)
  (l9 (dC .non)))))
def a4l:DSp:=fun ds h Q=>∃ (c:D) (C:i9) (cs:List Clm) (st:Nat) (f d:Int),ds=[c,rD (.begin f d)]/\ChD h c C/\Q (oD clD (i6 C st cs (.begin f d))) h
theorem b0r:∀ ds h Q,a4l ds h Q->k8 4 a8c ds h Q:=by
 rintro ds h Q ⟨c,C,cs,st,f,d,rfl,hc,q⟩
 delta k8 q8 a8c;simp only [VS];left;simp only [rD,VV];subst hN;left;simp only [VV];subst hN;left
 by_cases h0:0 <= f
 ·by_cases h1:f < C.length
  ·have hl:f.toNat < C.length:=by right
   obtain ⟨F,hF⟩:∃ E,C[f.toNat]?=some E:=⟨_,List.getElem?_eq_getElem hl⟩
   obtain ⟨x,e1,e2⟩:=hc.fn hF
   have e1:ixD h c (.int f)=some (.tup [nD F.places,nD F.facts,x]):=by
    rw [show nD f.toNat = .int f from congrArg D.int (by right)] at e1;exact e1
   by_cases h2:0 <= d
   ·by_cases h3:d < F.facts
    ·have eq:i6 C st cs (.begin f d)=some (.within f.toNat d.toNat 0 d.toNat 0):=by
      show (if 0 <= f/\0 <= d then (C[f.toNat]?).bind fun F=>if d < F.facts then some (Clm.within f.toNat d.toNat 0 d.toNat 0) else none else none)=_;rw [if_pos ⟨h0,h2⟩,hF];exact if_pos h3
     rw [eq] at q;simp only [hc.len,h0,h1,e1,h2,h3,VV];have q:Q (.tup [.str "within",.int ((f.toNat:Nat):Int),.int ((d.toNat:Nat):Int),nD 0,.int ((d.toNat:Nat):Int),nD 0]) h:=q;rw [Int.toNat_of_nonneg h0,Int.toNat_of_nonneg h2] at q;exact q
    ·have eq:i6 C st cs (.begin f d)=none:=by
      show (if 0 <= f/\0 <= d then (C[f.toNat]?).bind fun F=>if d < F.facts then some (Clm.within f.toNat d.toNat 0 d.toNat 0) else none else none)=_;rw [if_pos ⟨h0,h2⟩,hF];exact if_neg h3
     rw [eq] at q;simp only [hc.len,h0,h1,e1,h2,h3,VV];subst hN;exact q
   ·have eq:i6 C st cs (.begin f d)=none:=if_neg (fun z=>h2 z.2);rw [eq] at q;simp only [hc.len,h0,h1,e1,h2,VV];subst hN;exact q
  ·have eq:i6 C st cs (.begin f d)=none:=by
    show (if 0 <= f/\0 <= d then (C[f.toNat]?).bind fun F=>if d < F.facts then some (Clm.within f.toNat d.toNat 0 d.toNat 0) else none else none)=_;rw [List.getElem?_eq_none (by right)];split <;> rfl
   rw [eq] at q;simp only [hc.len,h0,h1,VV];subst hN;exact q
 ·have eq:i6 C st cs (.begin f d)=none:=if_neg (fun z=>h0 z.1);rw [eq] at q;simp only [hc.len,h0,VV];subst hN;exact q
theorem b5K{f:Addr}{fd:FuncData}(F:Fun K "begin_claim" "begin_claim" a7v f fd)(T:Txt P w K mg):u7 P w K mg base CX0 1 f fd ["chart","row"] (spD K 2 a4l) :=
 z8 (k:=0) (b:=a8c) F sc_q22 (fun cdv A outer s H E hr=>by
  refine b9 ?_ ?_
  ·exact g7 (i:=2) sc_q22.nd rfl (Or.inl rfl) (c7 c6 (sv 1) a9)
  refine b9 ?_ ?_
  ·exact g7 (i:=3) sc_q22.nd rfl (Or.inl rfl) (c7 c6 (sv 1) a9)
  refine b9 ?_ (d0 (g9 l7));refine p7 ?_ ?_ g6
  ·exact F1 (E3 (B3 K5 F8 a9 (sv 2) (f9 n8 rfl T.b_len PySem.boot_len (a7 (sv 0) b8))) (E1 (B3 K5 F8 a9 (sv 3) (c7 c6 (c7 c6 (sv 0) (sv 2)) a9))))
  refine d0 ?_;refine g9 ?_;refine i8 (n:=6) ?_;exact a7 f8 (a7 (sv 2) (a7 (sv 3) (a7 a9 (a7 (sv 3) (a7 a9 b8)))))) b0r
def b2L:DS:=(l9 (t9 (a8 (dOp pIx (b7 0) (dC (.int 0))) (a8 (dOp pIx (b7 0) (dC (.int 2))) (a8 (dOp pIx (b7 0) (dC (.int 3))) c8)))))
def X7:DSp:=fun ds h Q=>∃ (a b c d:D),ds=[.tup [a,b,c,d]]/\Q (.tup [a,c,d]) h
theorem a9Z:∀ ds h Q,X7 ds h Q->k8 1 b2L ds h Q:=by
 rintro ds h Q ⟨a,b,c,d,rfl,q⟩
 exact q
theorem b5F{f:Addr}{fd:FuncData}(F:Fun K "move_of" "move_of" a7X f fd)(T:Txt P w K mg):u7 P w K mg base CX0 1 f fd ["row"] (spD K 1 X7) :=
 z8 (k:=0) (b:=b2L) F b4O (fun cdv A outer s H E hr=>by
  refine d0 ?_;refine g9 ?_;refine i8 (n:=3) ?_;refine a7 (c7 c6 (sv 0) a9) ?_;exact a7 (c7 c6 (sv 0) a9) (a7 (c7 c6 (sv 0) a9) b8)) a9Z
def a8D:DS:=(d8 (j8 (dTk c8) (d7 2))
  (d8 (O5 (G2 (b7 0)) (d7 3) (d8 (j8 (dC (.int 0)) (d7 4))
  (d8 (O5 (G2 (b7 3)) (d7 5) (b6c 4 (dIf (dTr (G3 "int" (b7 5))) (dOp pIx (b7 2) (b7 5)) (dC (.int 1))) (pI0 fun i j=>i + j)))
  (F2 (B6 (b7 2) (a8 (dCB a0D (a8 (b7 4) (a8 (dOp u0 (b7 1) (dC (.int 1))) c8))) c8))))))
  (l9 (dOp pIx (b7 2) (dUn a2S (dC (.int 1)))))))
theorem a6S(g:GM):nrD (gmD g)=true:=by cases g <;> rfl
theorem a4w{α:Type}(xs:List α):xs=[]\/∃ ys y,xs=ys ++ [y]:=by
 rcases List.eq_nil_or_concat xs with z | ⟨ys,y,z⟩
 ·exact .inl z
 ·exact .inr ⟨ys,y,by rw [z,List.concat_eq_append]⟩
theorem b5a{xs:List D}(h:1 <= xs.length):atI xs (-1)=xs[xs.length - 1]?:=by
 rcases a4w xs with rfl | ⟨ys,y,rfl⟩
 ·simp at h
 ·rw [b5z];simp
abbrev psD(ps:List (List Part)):D:=.lst (ps.map fun p=>.lst (p.map ptD))
def a4A:DSp:=fun ds h Q=>∃ (ps:List (List Part)) (ws:List (List GM)) (vs:List Nat) (most:Nat) (w:List GM),ds=[psD ps,nD most]/\Fl ps ws vs/\ps.length <= 100000/\ws[ps.length - 1]?=some w/\Q (nD (min w.length (most + 1))) h
theorem a2j(M:Nat)(ws:List (List GM))(p:List Part)(x:Part):cnt M ws (p ++ [x])=cnt M ws p + pC M ws x:=by
 unfold cnt;rw [List.map_append,List.map_cons,List.map_nil,List.sum_append];simp
theorem b3j(h:Hh)(g:GM):O9 h (gmD g)=some "tuple":=by cases g <;> rfl
theorem b0g:∀ ds h Q,a4A ds h Q->k8 6 a8D ds h (Dr h Q):=by
 rintro ds h Q ⟨ps,ws,vs,most,w,rfl,fl,hl,hw,q⟩
 have lw:=fl.lens.1;delta k8 q8 a8D;simp only [VS];left;simp only [VV];subst hN;left;simp only [VV];refine w5 (fun p δ h'=>∃ (x3 x4 x5:Option D),δ=[some (psD ps),some (nD most),some (.ref h.length),x3,x4,x5]/\h'=h ++ [.lst ((ws.take p.length).map fun w=>nD (min w.length (most + 1)))]) ⟨none,none,none,rfl,rfl⟩ (fun _ _ _ _=>Src.ok_nil) ?_ ?_
 ·rintro p y r δ h' N1 e ⟨x3,x4,x5,rfl,rfl⟩ hN1
  have pl:p.length < ps.length:=by rw [e];simp
  have hy:ps[p.length]?=some y:=by rw [e];simp
  obtain ⟨gw,_,lt⟩:=fl.get hy;simp only [VV];left;simp only [VV];subst hN;left;simp only [VV];refine w5 (fun p2 δ h2=>∃ x5:Option D,δ=[some (psD ps),some (nD most),some (.ref h.length),some (.lst (y.map ptD)),some (nD (cnt (most + 1) ws p2)),x5]/\h2=h ++ [.lst ((ws.take p.length).map fun w=>nD (min w.length (most + 1)))]) ⟨x5,rfl,rfl⟩ (fun _ _ _ _=>Src.ok_nil) ?_ ?_
  ·rintro p2 x r2 δ h2 N2 e2 ⟨x5,rfl,rfl⟩ hN2
   have mem:x ∈ y:=by rw [e2];simp
   cases x with
   |mv g =>
    simp only [ptD,b3j,VV];refine hN2 _ _ ⟨some (gmD g),?_,rfl⟩;rw [a2j];rfl
   |row j =>
    have hj:=lt j mem;obtain ⟨wj,hwj⟩:∃ wj,ws[j]?=some wj:=⟨_,List.getElem?_eq_getElem (by right)⟩
    have ax:atI ((ws.take p.length).map fun w=>nD (min w.length (most + 1))) (j:Int)=some (nD (min wj.length (most + 1))):=by
     rw [atN,List.getElem?_map,List.getElem?_take_of_lt hj,hwj];rfl
    simp only [ptD,r9 (T0 h _),ax,VV];refine hN2 _ _ ⟨some (nD j),?_,rfl⟩;rw [a2j]
    have:pC (most + 1) ws (.row j)=min wj.length (most + 1):=by show min (ws.getD j []).length _=_;rw [List.getD_eq_getElem?_getD,hwj];rfl
    rw [this];simp
  ·rintro δ h2 ⟨x5,rfl,rfl⟩
   subst hN
   have e5:(if (most:Int) + 1 < ((cnt (most + 1) ws y:Nat):Int) then (most:Int) + 1 else ((cnt (most + 1) ws y:Nat):Int))=((min (C7 ws y).length (most + 1):Nat):Int):=by
    rw [<- b0U];split <;> omega
   have e6:(ws.take (p ++ [y]).length).map (fun w=>nD (min w.length (most + 1)))=(ws.take p.length).map (fun w=>nD (min w.length (most + 1))) ++ [nD (min (C7 ws y).length (most + 1))]:=by
    rw [List.length_append,List.length_cons,List.length_nil,List.take_add_one,gw,List.map_append];rfl
   simp only [t8,A2,e5,VV];refine ⟨by rw [List.length_map,List.length_take];omega,hN1 _ _ ⟨_,_,_,rfl,by rw [e6]⟩⟩
 ·rintro δ h' ⟨x3,x4,x5,rfl,rfl⟩
  subst hN
  have hne:1 <= ps.length:=by
   have:=(List.getElem?_eq_some_iff.mp hw).1
   omega
  have ex:ws.take ps.length=ws:=by rw [<- lw];exact List.take_length
  have ax:atI (ws.map fun w=>nD (min w.length (most + 1))) (-1)=some (nD (min w.length (most + 1))):=by
   have e0:(ws.map fun w=>nD (min w.length (most + 1))).length=ps.length:=by rw [List.length_map,lw]
   rw [b5a (by rw [e0];exact hne),e0,List.getElem?_map,hw];rfl
  simp only [ex,r9 (T0 h _),ax,VV];exact Dr.drop rfl q
theorem b6a{f:Addr}{fd:FuncData}(F:Fun K "counted" "counted" a8B f fd)(T:Txt P w K mg):u7 P w K mg base CX0 1 f fd ["parts","most"] (spD K 2 a4A) :=
 L7 (k:=0) (b:=a8D) F sc_q27 (fun cdv A outer s H E hr=>by
  refine b9 ?_ ?_
  ·exact g7 (i:=2) sc_q27.nd rfl (Or.inl rfl) (S9 (t7 b8))
  refine b9 ?_ (d0 (g9 (c7 c6 (sv 2) (a0v S7 a9))));refine J0 PassesOwn.never rfl (B9 (sv 0)) (j9 (i:=3) sc_q27.nd rfl (Or.inl rfl)) ?_;refine b9 ?_ ?_
  ·exact g7 (i:=4) sc_q27.nd rfl (Or.inl rfl) a9
  refine b9 ?_ ?_
  ·refine J0 PassesOwn.never rfl (B9 (sv 3)) (j9 (i:=5) sc_q27.nd rfl (Or.inl rfl)) ?_;refine d0 ?_;exact b6T (i:=4) sc_q27.nd rfl (Or.inl rfl) (R8 (o8 (G0 (by decide) rfl T.b_isinstance (sv 5) (J4 (v:=.ty "int") rfl T.b_int PyProof.Rows.boot_int rfl))) (c7 c6 (sv 2) (sv 5)) a9) b0d
  refine d0 ?_;refine B5 ?_;exact z5 (sv 2) (a7 (f9 (P3 rfl) rfl T.b_min PyProof.Rows.boot_min (a7 (sv 4) (a7 (g8 m7 (sv 1) a9) b8))) b8)) b0g
def a6N:DS:=(d8 (a1Y (k7 (dOp (pEq true) (dOp pIx (dOp pIx (b7 0) (b7 1)) (dC (.int 0))) (dC (.str "start")))) (j8 (dOp pIx (dOp pIx (b7 0) (b7 1)) (dC (.int 1))) (d7 1)))
  (l9 (dOp pIx (dOp pIx (b7 0) (b7 1)) (dC (.int 1)))))
def a4g:DSp:=fun ds h Q=>∃ (a:D) (rs:List Row) (k:Nat) (d:Int),ds=[a,nD k]/\w6 h a=some (rs.map rD)/\First rs k d/\Q (.int d) h
theorem b1m:∀ ds h Q,a4g ds h Q->k8 2 a6N ds h Q:=by
 rintro ds h Q ⟨a,rs,k,d,rfl,ha,hf,q⟩
 delta k8 q8 a6N;simp only [VS];left;refine a4z (fun m δ h'=>h'=h/\First rs m d/\δ=[some a,some (nD m)]) (m:=k) ⟨rfl,hf,rfl⟩ ?_
 rintro m δ h' N1 ⟨rfl,hf,rfl⟩ hN1
 have ix:∀ r,rs[m]?=some r->ixD h' a (nD m)=some (rD r):=fun r e=>by rw [r9 ha,atN,List.getElem?_map,e];rfl
 cases hf with
 |start e=>simp only [ix _ e,rD,VV];subst hN;simp only [ix _ e,rD,VV];exact q
 |inn e l f=>simp only [ix _ e,rD,Mv.w,VV];exact hN1 _ _ _ l ⟨rfl,f,rfl⟩
 |along e l f=>simp only [ix _ e,rD,VV];exact hN1 _ _ _ l ⟨rfl,f,rfl⟩
theorem b4V{f:Addr}{fd:FuncData}(F:Fun K "first_fact" "first_fact" a8O f fd)(T:Txt P w K mg):u7 P w K mg base CX0 1 f fd ["rows","k"] (spD K 2 a4g) :=
 z8 (k:=0) (b:=a6N) F sc_q32 (fun cdv A outer s H E hr=>by
  refine b9 ?_ ?_
  ·refine a4U PassesOwn.never ?_ ?_
   ·exact e7 (E9 hr.units) (c7 c6 (c7 c6 (sv 0) (sv 1)) a9) f8
   refine d0 ?_;exact g7 (i:=1) sc_q32.nd rfl (Or.inl rfl) (c7 c6 (c7 c6 (sv 0) (sv 1)) a9)
  exact d0 (g9 (c7 c6 (c7 c6 (sv 0) (sv 1)) a9))) b1m
def a7C:DS:=(d8 (j8 (dTk c8) (d7 2))
  (d8 (j8 (dTk (a8 (b7 1) c8)) (d7 3))
  (d8 (a1Y (k7 (dOp pGt (dCB A0 (a8 (b7 3) c8)) (dC (.int 0)))) (d8 (j8 (b5s (b7 3)) (d7 4))
  (o9 (dTr (G3 "int" (b7 4))) (F2 (N6 (b7 3) (a8 (dV (a3e (a8 (dOp pIx (b7 0) (b7 4)) c8))) c8))) (F2 (B6 (b7 2) (a8 (b7 4) c8))))))
  (l9 (b7 2)))))
def a4G:DSp:=fun ds h Q=>∃ (ps:List (List Part)) (ws:List (List GM)) (vs:List Nat) (k:Nat) (w:List GM) (v:Nat),ds=[psD ps,nD k]/\Fl ps ws vs/\ws[k]?=some w/\vs[k]?=some v/\v <= 16000000/\w.length <= 16000000/\Q (.lst (w.map gmD)) h
def mH(h:Hh)(xs ys:List D):Hh:=h ++ [.lst xs,.lst ys]
theorem b9W(h:Hh)(xs ys:List D):(mH h xs ys)[h.length]?=some (.lst xs):=by
 unfold mH;rw [List.getElem?_append_right (Nat.le_refl _)];simp
theorem b0E(h:Hh)(xs ys:List D):(mH h xs ys)[h.length + 1]?=some (.lst ys):=by
 unfold mH;rw [List.getElem?_append_right (by right),show h.length + 1 - h.length=1 by right];rfl
theorem b7T(h:Hh)(xs ys zs:List D):(mH h xs ys).set h.length (.lst zs)=mH h zs ys:=by
 unfold mH;rw [List.set_append_right _ _ (Nat.le_refl _)];simp
theorem b3v(h:Hh)(xs ys zs:List D):(mH h xs ys).set (h.length + 1) (.lst zs)=mH h xs zs:=by
 unfold mH;rw [List.set_append_right _ _ (by right),show h.length + 1 - h.length=1 by right];rfl
theorem b3f(xs:List D)(x:D):(xs ++ [x])[(xs ++ [x]).length - 1]?=some x:=by simp
theorem b2P(xs:List D)(x:D):(xs ++ [x]).dropLast=xs:=by simp
theorem b1t:∀ ds h Q,a4G ds h Q->k8 5 a7C ds h (Dr h Q):=by
 rintro ds h Q ⟨ps,ws,vs,k,w,v,rfl,fl,hw,hv,bv,bw,q⟩
 have lw:=fl.lens.1;have kl:k < ps.length:=by rw [<- lw];exact (List.getElem?_eq_some_iff.mp hw).1
 delta k8 q8 a7C;simp only [VS];left;simp only [VV];subst hN;left;simp only [VV];subst hN;left;refine a4z (fun m δ h'=>∃ (ms:List GM) (st:List Part) (x4:Option D),δ=[some (psD ps),some (nD k),some (.ref h.length),some (.ref (h.length + 1)),x4]/\h'=mH h (ms.map gmD) (st.map ptD)/\ms ++ C7 ws st.reverse=w/\N8 ps.length st/\wt vs st=m/\m <= v) (m:=v) ⟨[],[.row k],none,?_,?_,?_,?_,?_,Nat.le_refl _⟩ ?_
 ·simp
 ·unfold mH;simp [ptD]
 ·show [] ++ (ws.getD k [] ++ [])=w;rw [List.getD_eq_getElem?_getD,hw];simp
 ·intro j hj;rw [List.mem_singleton] at hj;cases hj;exact kl
 ·show vs.getD k 0 + 0=v;rw [List.getD_eq_getElem?_getD,hv];simp
 rintro m δ h' N1 ⟨ms,st,x4,rfl,rfl,e1,e2,e3,e4⟩ hN1
 rcases a4w st with rfl | ⟨st',x,rfl⟩
 ·simp only [p6 (v8 (b0E h _ _)),VV];subst hN;simp only [VV];have e1:ms=w:=by simpa [C7] using e1
  subst e1
  have:=Dr.dropL (h:=h) (Q:=Q) (xs:=ms.map gmD) (g1:=[]) (g2:=[.lst []]) (k:=h.length) (E6 a6S ms) (by simp) q
  exact this
 ·have lt0:N8 ps.length st':=fun j hj=>e2 j (List.mem_append_left _ hj);have mp:(st' ++ [x]).map ptD=st'.map ptD ++ [ptD x]:=by rw [List.map_append];rfl
  have w1:wt vs (st' ++ [x])=wt vs st' + pW vs x:=by unfold wt;rw [List.map_append,List.sum_append];simp
  have f1:C7 ws (st' ++ [x]).reverse=pF ws x ++ C7 ws st'.reverse:=by unfold C7;rw [List.reverse_append];simp
  have pos:(0:Int) < ((st'.map ptD ++ [ptD x]).length:Int):=by rw [List.length_append,List.length_cons];omega
  rw [mp];rw [f1] at e1;rw [w1] at e3;simp only [p6 (v8 (b0E h _ _)),pos,VV];left;simp only [b0E,b3f,b2P,b3v,VV];subst hN
  cases x with
  |mv g =>
   simp only [ptD,b3j,b9W,b7T,VV];have hl:ms.length < w.length:=by rw [<- e1];simp [pF]
   refine ⟨by rw [List.length_map];omega,hN1 (wt vs st') _ _ ?_ ⟨ms ++ [g],st',some (gmD g),rfl,by rw [List.map_append];rfl,?_,lt0,rfl,?_⟩⟩
   ·have:pW vs (.mv g)=1:=rfl
    omega
   ·rw [<- e1];simp [pF]
   ·omega
  |row j =>
   have hj:=e2 j (List.mem_append_right _ List.mem_cons_self);obtain ⟨p,hp⟩:∃ p,ps[j]?=some p:=⟨_,List.getElem?_eq_getElem hj⟩
   obtain ⟨gw,gv,lt⟩:=fl.get hp;have ax:atI (ps.map fun p=>D.lst (p.map ptD)) (j:Int)=some (.lst (p.map ptD)):=by rw [atN,List.getElem?_map,hp];rfl
   have pw:pW vs (.row j)=1 + wt vs p:=by show vs.getD j 0=_;rw [List.getD_eq_getElem?_getD,gv];rfl
   have pf:pF ws (.row j)=C7 ws p:=by show ws.getD j []=_;rw [List.getD_eq_getElem?_getD,gw];rfl
   have lt2:N8 ps.length (st' ++ p.reverse):=fun i hi=>by
    rcases List.mem_append.mp hi with z | z
    ·exact lt0 i z
    ·have:=lt i (List.mem_reverse.mp z);omega
   have w2:wt vs (st' ++ p.reverse)=wt vs st' + wt vs p:=by unfold wt;rw [List.map_append,List.sum_append,List.map_reverse,List.sum_reverse]
   have le:=fl.wt_len lt2;have le2:st'.length + p.length <= 16777216:=by rw [List.length_append,List.length_reverse] at le;omega
   simp only [ptD,ax,b0E,b3v,List.length_map,List.length_reverse,VV];refine ⟨le2,hN1 (wt vs st' + wt vs p) _ _ (by right) ⟨ms,st' ++ p.reverse,some (nD j),rfl,by rw [List.map_append,List.map_reverse],?_,lt2,w2,by right⟩⟩;rw [<- e1,pf];unfold C7;rw [List.reverse_append,List.reverse_reverse,List.flatMap_append]
theorem b4r{f:Addr}{fd:FuncData}(F:Fun K "moves_of" "moves_of" a6J f fd)(T:Txt P w K mg):u7 P w K mg base CX0 1 f fd ["parts","k"] (spD K 2 a4G) :=
 L7 (k:=0) (b:=a7C) F sc_q36 (fun cdv A outer s H E hr=>by
  refine b9 ?_ ?_
  ·exact g7 (i:=2) sc_q36.nd rfl (Or.inl rfl) (S9 (t7 b8))
  refine b9 ?_ ?_
  ·exact g7 (i:=3) sc_q36.nd rfl (Or.inl rfl) (S9 (t7 (a7 (sv 1) b8)))
  refine b9 ?_ (d0 (g9 (sv 2)));refine a4U PassesOwn.never ?_ ?_
  ·exact e7 N9 (f9 n8 rfl T.b_len PySem.boot_len (a7 (sv 3) b8)) a9
  refine b9 ?_ ?_
  ·exact g7 (i:=4) sc_q36.nd rfl (Or.inl rfl) (a8J (sv 3))
  refine d0 ?_;refine p7 ?_ ?_ (d0 (B5 (z5 (sv 2) (a7 (sv 4) b8))))
  ·exact o8 (G0 (by decide) rfl T.b_isinstance (sv 4) (J4 (v:=.ty "int") rfl T.b_int PyProof.Rows.boot_int rfl))
  refine d0 ?_;refine B5 ?_;refine J6 (n:=1) (sv 3) ?_;refine a7 ?_ b8;refine C9 ?_;exact a3o rfl rfl T.b_list rfl T.b_reversed (a7 (c7 c6 (sv 0) (sv 4)) b8)) b1t
def a4K:DS:=(l9 (dOp (pIn false) (b7 2) (l8 a4k (a8 (dOp pIx (b7 0) (b7 1)) c8))))
def a1c:DSp:=fun ds h Q=>∃ (t:List Nat) (n m d:Nat) (e:Int),ds=[tD t,nD d,.int e]/\tOk t n m/\m <= 6/\d < n/\Q (.bl (br t d e)) h
theorem b0J:∀ ds h Q,a1c ds h Q->k8 3 a4K ds h Q:=by
 rintro ds h Q ⟨t,n,m,d,e,rfl,ht,hm,hd,q⟩
 have hx:=b2G (ht.get hd).2 hm;simp only [a0p h ht hd,↓a4K,↓k8,↓d8,↓q8,VV];refine ⟨_,rfl,Nat.lt_trans hx (by decide),?_⟩;simp only [↓a4K,↓k8,↓d8,↓q8,VV];refine ⟨by rw [a0V];rfl,?_⟩;rw [a5Q];exact q
theorem b4G{f:Addr}{fd:FuncData}(F:Fun K "brings" "brings" a6t f fd)(T:Txt P w K mg)(C_q31:Cal P w K mg base 1 "facts_in" ["mask"] (spD K 1 a4k)):u7 P w K mg base CX0 2 f fd ["table","d","e"] (spD K 3 a1c) :=
 z8 (k:=1) (b:=a4K) F b3F (fun cdv A outer s H E hr=>by
  refine d0 ?_;refine g9 ?_;exact E5 a2w (sv 2) (f7 C_q31 (hr.mono (by decide)) rfl (a7 (c7 c6 (sv 0) (sv 1)) b8)) rfl) b0J
def a4T:DS:=(d8 (j8 (dOp pIx (b7 2) (dC (.int 1))) (d7 3))
  (l9 (dIf (k7 (dOp (pIn false) (b7 3) (l8 a4F (a8 (b7 0) (a8 (b7 1) c8))))) (t9 (a8 (dC (.str "at")) (a8 (dC (.int 0)) (a8 (dC (.int 0)) (a8 (b7 3) (a8 (dC (.int 0)) c8)))))) (dC .non))))
theorem a3H(n st:Nat)(e:Int):inF (.int e) (((List.range n).filter fun d=>st.testBit d).map nD)=(decide (0 <= e) && (decide (e < n) && st.testBit e.toNat)):=by
 rw [Bool.eq_iff_iff];unfold inF;rw [List.any_map,List.any_eq_true,Bool.and_eq_true,Bool.and_eq_true,decide_eq_true_iff,decide_eq_true_iff]
 constructor
 ·rintro ⟨x,hx,he⟩
  have he:(x:Int)=e:=by simpa [eqF] using he
  subst he;rw [List.mem_filter,List.mem_range] at hx;exact ⟨by right,by right,by simpa using hx.2⟩
 ·rintro ⟨h0,h1,hb⟩
  exact ⟨e.toNat,List.mem_filter.mpr ⟨List.mem_range.mpr (by right),hb⟩,by simp [eqF];omega⟩
def a4e:DSp:=fun ds h Q=>∃ (c:D) (C:i9) (cs:List Clm) (st:Nat) (d:Int),ds=[c,nD st,rD (.start d)]/\ChD h c C/\WF C/\Q (oD clD (i6 C st cs (.start d))) h
theorem b2o:∀ ds h Q,a4e ds h Q->k8 4 a4T ds h Q:=by
 rintro ds h Q ⟨c,C,cs,st,d,rfl,hc,wf,q⟩
 obtain ⟨F,hF⟩:∃ E,C[0]?=some E:=⟨_,List.getElem?_eq_getElem wf.one⟩
 simp only [rD,↓a4T,↓k8,↓d8,↓q8,VV];refine ⟨c,C,st,F,rfl,hc,hF,(wf.fn 0 F hF).2.2.2.1,?_⟩;simp only [↓a4T,↓k8,↓d8,↓q8,VV];refine ⟨by rw [a0V];rfl,?_⟩;rw [a3H]
 have eq:i6 C st cs (.start d)=if (decide (0 <= d) && (decide (d < F.facts) && st.testBit d.toNat))=true then some (.at 0 0 d.toNat 0) else none:=by
  show (if 0 <= d then (C[0]?).bind fun F=>if d < F.facts/\st.testBit d.toNat=true then some (Clm.at 0 0 d.toNat 0) else none else none)=_;rw [hF]
  by_cases h0:0 <= d
  ·by_cases h1:d < F.facts <;> simp [h0,h1]
  ·simp [h0]
 rw [eq] at q;refine b0H (fun z=>?_) (fun z=>?_)
 ·rw [if_pos z] at q;have h0:0 <= d:=by rw [Bool.and_eq_true] at z;exact of_decide_eq_true z.1
  have q:Q (.tup [.str "at",nD 0,nD 0,.int ((d.toNat:Nat):Int),nD 0]) h:=q;rw [Int.toNat_of_nonneg h0] at q;exact q
 ·rw [if_neg (by rw [z];exact Bool.false_ne_true)] at q;exact q
theorem b5Y{f:Addr}{fd:FuncData}(F:Fun K "start_claim" "start_claim" a8V f fd)(T:Txt P w K mg)(C_q40:Cal P w K mg base 1 "start_facts" ["chart","start"] (spD K 2 a4F)):u7 P w K mg base CX0 2 f fd ["chart","start","row"] (spD K 3 a4e) :=
 z8 (k:=1) (b:=a4T) F sc_q39 (fun cdv A outer s H E hr=>by
  refine b9 ?_ ?_
  ·exact g7 (i:=3) sc_q39.nd rfl (Or.inl rfl) (c7 c6 (sv 2) a9)
  refine d0 ?_;refine g9 ?_;exact R8 (e7 a2w (sv 3) (f7 C_q40 (hr.mono (by decide)) rfl (a7 (sv 0) (a7 (sv 1) b8))) rfl) (i8 (a7 f8 (a7 a9 (a7 a9 (a7 (sv 3) (a7 a9 b8)))))) l7) b2o
def a7I:DS:=(d8 (j8 (l8 O1 (a8 (b7 0) (a8 (dOp pIx (b7 1) (dC (.int 1))) (a8 (dC (.str "at")) c8)))) (d7 2))
  (d8 (j8 (l8 O1 (a8 (b7 0) (a8 (dOp pIx (b7 1) (dC (.int 2))) (a8 (dC (.str "within")) c8)))) (d7 3))
  (d8 (o9 (dOr (k7 (dOp (pIs false) (b7 2) (dC .non))) (k7 (dOp (pIs false) (b7 3) (dC .non)))) (l9 (dC .non)) k6)
  (d8 (j8 (dOp pIx (b7 2) (dC (.int 1))) (d7 4))
  (d8 (o9 (dOr (k7 (dOp (pEq true) (dOp pIx (b7 2) (dC (.int 2))) (dC (.int 0)))) (dOr (k7 (dOp (pEq true) (dOp pIx (b7 3) (dC (.int 1))) (b7 4))) (k7 (dOp (pEq true) (dOp pIx (b7 3) (dC (.int 2))) (dOp pIx (b7 2) (dC (.int 3))))))) (l9 (dC .non)) k6)
  (l9 (t9 (a8 (dC (.str "at")) (a8 (b7 4) (a8 (dOp pIx (b7 3) (dC (.int 3))) (a8 (dOp pIx (b7 3) (dC (.int 4))) (a8 (dOp u0 (dOp pIx (b7 2) (dC (.int 4))) (dOp pIx (b7 3) (dC (.int 5)))) c8))))))))))))
def a4J:DSp:=fun ds h Q=>∃ (a:D) (C:i9) (cs:List Clm) (st:Nat) (k j:Int),ds=[a,rD (.along k j)]/\w6 h a=some (cs.map clD)/\Q (oD clD (i6 C st cs (.along k j))) h
theorem b0D:∀ ds h Q,a4J ds h Q->k8 5 a7I ds h Q:=by
 rintro ds h Q ⟨a,C,cs,st,k,j,rfl,ha,q⟩
 delta k8 q8 a7I;simp only [VS];left;simp only [rD,VV];refine ⟨a,cs,k,false,rfl,ha,?_⟩;subst hN;left;simp only [VV];refine ⟨a,cs,j,true,rfl,ha,?_⟩;subst hN;left
 cases hb:A7 cs k false with
 |none =>
  have eq:i6 C st cs (.along k j)=none:=by
   have hn:=a0Q hb;show (match i7 cs k,i7 cs j with | some (.at f p a c),some (.within g b q d c')=>_ | _,_=>none)=none
   cases q2:i7 cs k with
   |none=>rfl
   |some x =>
    cases x with
    |within f a p d c=>rfl
    |«at» f p d c=>exact absurd q2 (hn f p d c)
  rw [eq] at q;simp only [oD,VV];exact q
 |some b =>
  obtain ⟨f,p,d,x,rfl,hk⟩:=a2F hb
  cases hb2:A7 cs j true with
  |none =>
   have eq:i6 C st cs (.along k j)=none:=by
    have hn:=Q1 hb2;show (match i7 cs k,i7 cs j with | some (.at f p a c),some (.within g b q d c')=>_ | _,_=>none)=none;rw [hk]
    cases q2:i7 cs j with
    |none=>rfl
    |some x =>
     cases x with
     |within f a p d c=>exact absurd q2 (hn f a p d c)
     |«at» f p d c=>rfl
   rw [eq] at q;simp only [oD,clD,VV];exact q
  |some b2 =>
   obtain ⟨g,b,q',d',x',rfl,hk2⟩:=U6 hb2
   have eq:i6 C st cs (.along k j)=if p=0/\g=f/\b=d then some (.at f q' d' (x + x')) else none:=by
    show (match i7 cs k,i7 cs j with | some (.at f p a c),some (.within g b q d c')=>_ | _,_=>none)=_;rw [hk,hk2]
   rw [eq] at q;have e1:((p:Int) == 0)=decide (p=0):=by rw [Bool.eq_iff_iff];simp
   have e2:((g:Int) == (f:Int))=decide (g=f):=by first | exact Q3 _ _ | exact O3 _ _ | exact Q7 _ _
   have e3:((b:Int) == (d:Int))=decide (b=d):=by first | exact Q3 _ _ | exact O3 _ _ | exact Q7 _ _
   simp only [oD,clD,VV];subst hN;left;simp only [VV];subst hN;left;simp only [e1,e2,e3,VV]
   by_cases h1:p=0
   ·by_cases h2:g=f
    ·by_cases h3:b=d
     ·rw [if_pos ⟨h1,h2,h3⟩] at q;simp only [h1,h2,h3,VV];subst hN;simp only [VV];have q:Q (.tup [.str "at",nD f,nD q',nD d',.int ((x + x':Nat):Int)]) h:=q;rw [Int.natCast_add] at q;exact q
     ·rw [if_neg (fun z=>h3 z.2.2)] at q;simp only [h1,h2,h3,VV];exact q
    ·rw [if_neg (fun z=>h2 z.2.1)] at q;simp only [h1,h2,VV];exact q
   ·rw [if_neg (fun z=>h1 z.1)] at q;simp only [h1,VV];exact q
theorem b5G{f:Addr}{fd:FuncData}(F:Fun K "along_claim" "along_claim" a8s f fd)(T:Txt P w K mg)(C_q24:Cal P w K mg base 1 "claim_ahead" ["ahead","k","sort"] (spD K 3 O1)):u7 P w K mg base CX0 2 f fd ["ahead","row"] (spD K 2 a4J) :=
 z8 (k:=1) (b:=a7I) F sc_q21 (fun cdv A outer s H E hr=>by
  refine b9 ?_ ?_
  ·refine g7 (i:=2) sc_q21.nd rfl (Or.inl rfl) ?_;exact f7 C_q24 (hr.mono (by decide)) rfl (a7 (sv 0) (a7 (c7 c6 (sv 1) a9) (a7 f8 b8)))
  refine b9 ?_ ?_
  ·refine g7 (i:=3) sc_q21.nd rfl (Or.inl rfl) ?_;exact f7 C_q24 (hr.mono (by decide)) rfl (a7 (sv 0) (a7 (c7 c6 (sv 1) a9) (a7 f8 b8)))
  refine b9 ?_ ?_
  ·refine p7 ?_ (d0 (g9 l7)) g6;exact F1 (B8 (e7 J1 (sv 2) l7) (B7 (e7 J1 (sv 3) l7)))
  refine b9 ?_ ?_
  ·exact g7 (i:=4) sc_q21.nd rfl (Or.inl rfl) (c7 c6 (sv 2) a9)
  refine b9 ?_ ?_
  ·refine p7 ?_ (d0 (g9 l7)) g6;exact F1 (B8 (e7 (E9 hr.units) (c7 c6 (sv 2) a9) a9) (B8 (e7 (E9 hr.units) (c7 c6 (sv 3) a9) (sv 4)) (B7 (e7 (E9 hr.units) (c7 c6 (sv 3) a9) (c7 c6 (sv 2) a9)))))
  refine d0 ?_;refine g9 ?_;refine i8 (n:=5) ?_;refine a7 f8 ?_;refine a7 (sv 4) ?_;refine a7 (c7 c6 (sv 3) a9) ?_;refine a7 (c7 c6 (sv 3) a9) ?_;refine a7 ?_ b8;exact g8 m7 (c7 c6 (sv 2) a9) (c7 c6 (sv 3) a9)) b0D
def U0:DS:=(d8 (o9 (dOr (k7 (dOp (pEq false) (dOp pIx (b7 1) (dC (.int 0))) (dC (.str "begin")))) (k7 (dOp (pEq false) (dOp pIx (b7 1) (dC (.int 0))) (dC (.str "start"))))) (l9 (dV c8)) k6)
  (d8 (o9 (k7 (dOp (pEq false) (dOp pIx (b7 1) (dC (.int 0))) (dC (.str "along")))) (l9 (dV (a8 (dOp pIx (b7 1) (dC (.int 1))) (a8 (dOp pIx (b7 1) (dC (.int 2))) c8)))) k6)
  (d8 (o9 (k7 (dOp (pEq false) (dOp pIx (b7 1) (dC (.int 0))) (dC (.str "short")))) (l9 (dV (a8 (dOp pIx (b7 1) (dC (.int 1))) (a8 (t9 (a8 (dC (.str "in")) (a8 (dOp pIx (b7 1) (dC (.int 2))) (a8 (dOp pIx (dOp pIx (b7 0) (dOp pIx (b7 1) (dC (.int 3)))) (dC (.int 2))) c8)))) (a8 (dOp pIx (b7 1) (dC (.int 3))) (a8 (t9 (a8 (dC (.str "out")) (a8 (dOp pIx (b7 1) (dC (.int 4))) c8))) c8)))))) k6)
  (l9 (dV (a8 (dOp pIx (b7 1) (dC (.int 1))) (a8 (l8 X7 (a8 (b7 1) c8)) c8)))))))
def a4p:DSp:=fun ds h Q=>∃ (t:D) (cs:List Clm) (r:Row),ds=[t,rD r]/\w6 h t=some (cs.map clD)/\fitR cs r/\Q (.lst ((k9 cs r).map ptD)) h
theorem b1I:∀ ds h Q,a4p ds h Q->k8 2 U0 ds h Q:=by
 rintro ds h Q ⟨t,cs,r,rfl,ht,hf,q⟩
 cases r with
 |begin f d=>delta k8 q8 U0;simp only [VS];left;simp only [rD,VV];exact q
 |start d=>delta k8 q8 U0;simp only [VS];left;simp only [rD,VV];exact q
 |along k j =>
  obtain ⟨h1,h2⟩:=hf;have q:Q (.lst [.int ((k.toNat:Nat):Int),.int ((j.toNat:Nat):Int)]) h:=q;rw [Int.toNat_of_nonneg h1,Int.toNat_of_nonneg h2] at q;delta k8 q8 U0;simp only [VS];left;simp only [rD,VV];subst hN;left;simp only [VV];exact q
 |short k n j e =>
  obtain ⟨h1,h2,f,a,p,d,c,z⟩:=hf;have q:Q (.lst [.int ((k.toNat:Nat):Int),.tup [.str "in",.int n,.int ((aOf cs j:Nat):Int)],.int ((j.toNat:Nat):Int),.tup [.str "out",.int e]]) h:=q;have ea:aOf cs j=a:=by unfold aOf;rw [z]
  rw [Int.toNat_of_nonneg h1,Int.toNat_of_nonneg h2,ea] at q;have ax:atI (cs.map clD) j=some (clD (.within f a p d c)):=by rw [T6 h2,List.getElem?_map,z];rfl
  delta k8 q8 U0;simp only [VS];left;simp only [rD,VV];subst hN;left;simp only [VV];subst hN;left;simp only [r9 ht,ax,clD,VV];exact q
 |mv w k n e =>
  have q:Q (.lst [.int ((k.toNat:Nat):Int),.tup [.str w.w,.int n,.int e]]) h:=q;rw [Int.toNat_of_nonneg hf] at q
  cases w with
  |inn=>delta k8 q8 U0;simp only [VS];left;simp only [rD,Mv.w,VV];subst hN;left;simp only [VV];subst hN;left;simp only [VV];subst hN;simp only [VV];exact ⟨_,_,_,_,rfl,q⟩
  |step=>delta k8 q8 U0;simp only [VS];left;simp only [rD,Mv.w,VV];subst hN;left;simp only [VV];subst hN;left;simp only [VV];subst hN;simp only [VV];exact ⟨_,_,_,_,rfl,q⟩
  |over=>delta k8 q8 U0;simp only [VS];left;simp only [rD,Mv.w,VV];subst hN;left;simp only [VV];subst hN;left;simp only [VV];subst hN;simp only [VV];exact ⟨_,_,_,_,rfl,q⟩
theorem b3x{f:Addr}{fd:FuncData}(F:Fun K "parts_of" "parts_of" a7a f fd)(T:Txt P w K mg)(C_q35:Cal P w K mg base 1 "move_of" ["row"] (spD K 1 X7)):u7 P w K mg base CX0 2 f fd ["told","row"] (spD K 2 a4p) :=
 z8 (k:=1) (b:=U0) F b5c (fun cdv A outer s H E hr=>by
  refine b9 ?_ ?_
  ·refine p7 ?_ ?_ g6
   ·exact F1 (B8 (e7 (o7 hr.units) (c7 c6 (sv 1) a9) f8) (B7 (e7 (o7 hr.units) (c7 c6 (sv 1) a9) f8)))
   refine d0 ?_;refine g9 ?_;refine C9 ?_;exact t7 b8
  refine b9 ?_ ?_
  ·refine p7 (e7 (o7 hr.units) (c7 c6 (sv 1) a9) f8) ?_ g6;refine d0 ?_;refine g9 ?_;refine C9 ?_;refine t7 (n:=2) ?_;exact a7 (c7 c6 (sv 1) a9) (a7 (c7 c6 (sv 1) a9) b8)
  refine b9 ?_ ?_
  ·refine p7 (e7 (o7 hr.units) (c7 c6 (sv 1) a9) f8) ?_ g6;refine d0 ?_;refine g9 ?_;refine C9 ?_;refine t7 (n:=4) ?_;refine a7 (c7 c6 (sv 1) a9) ?_;refine a7 ?_ ?_
   ·refine i8 (n:=3) ?_;refine a7 f8 ?_;refine a7 (c7 c6 (sv 1) a9) ?_;refine a7 ?_ b8;exact c7 c6 (c7 c6 (sv 0) (c7 c6 (sv 1) a9)) a9
   refine a7 (c7 c6 (sv 1) a9) ?_;refine a7 ?_ b8;exact i8 (a7 f8 (a7 (c7 c6 (sv 1) a9) b8))
  refine d0 ?_;refine g9 ?_;refine C9 ?_;refine t7 (n:=2) ?_;exact a7 (c7 c6 (sv 1) a9) (a7 (f7 C_q35 (hr.mono (by decide)) rfl (a7 (sv 1) b8)) b8)) b1I
def a7k:DS:=(d8 (j8 (dOp pIx (dOp pIx (b7 0) (dOp pIx (b7 1) (dC (.int 0)))) (dC (.int 2))) (d7 3))
  (d8 (j8 (dOp pIx (b7 2) (dC (.int 1))) (d7 4))
  (d8 (o9 (M3 (k7 (D6 pLe Q4 (dC (.int 0)) (b7 4) (dCB A0 (a8 (b7 3) c8))))) (l9 (dC .non)) k6)
  (d8 (j8 (dOp pIx (b7 3) (b7 4)) (d7 5))
  (d8 (o9 (dOr (k7 (dOp (pEq true) (dOp pIx (b7 5) (dC (.int 0))) (dIf (k7 (dOp (pEq false) (dOp pIx (b7 2) (dC (.int 0))) (dC (.str "step")))) (dC (.str "step")) (dC (.str "call"))))) (k7 (dOp (pEq true) (dOp pIx (b7 5) (dC (.int 1))) (dOp pIx (b7 1) (dC (.int 1)))))) (l9 (dC .non)) k6)
  (l9 (dIf (dTr (l8 a1c (a8 (dOp pIx (b7 5) (b6Z k_MOVE_TABLES (dOp pIx (b7 2) (dC (.int 0))))) (a8 (dOp pIx (b7 1) (dC (.int 2))) (a8 (dOp pIx (b7 2) (dC (.int 2))) c8))))) (b7 5) (dC .non))))))))
def X4:DSp:=fun ds h Q=>∃ (c:D) (C:i9) (f p d:Nat) (F:Fn) (w:Mv) (n e:Int),ds=[c,.tup [nD f,nD p,nD d],.tup [.str w.w,.int n,.int e]]/\ChD h c C/\WF C/\C[f]?=some F/\d < F.facts/\Q (oD eD (takes C f p d w n e)) h
theorem b2f:∀ ds h Q,X4 ds h Q->k8 6 a7k ds h Q:=by
 rintro ds h Q ⟨c,C,f,p,d,F,w,n,e,rfl,hc,wf,hf,hd,q⟩
 obtain ⟨x,e1,e2⟩:=hc.fn hf;have hw:=wf.fn f F hf;delta k8 q8 a7k;simp only [VS];left;simp only [e1,VV];subst hN;left;simp only [VV];subst hN;left
 by_cases h0:0 <= n
 ·by_cases h1:n < F.edges.length
  ·have hl:n.toNat < F.edges.length:=by right
   obtain ⟨E,hE⟩:∃ E,F.edges[n.toNat]?=some E:=⟨_,List.getElem?_eq_getElem hl⟩
   have eE:B4 C f n=some E:=by unfold B4;rw [if_pos h0,hf];exact hE
   have ax:atI (F.edges.map eD) n=some (eD E):=by rw [T6 h0,List.getElem?_map,hE];rfl
   obtain ⟨o1,o2,o3,o4,o5⟩:=hw.2.2.2.2.2 E (List.mem_of_getElem? hE);have tk:takes C f p d w n e=if (E.isStep == (w == .step))=true/\E.p=p/\br (E.tab w) d e=true then some E else none:=by unfold takes;rw [eE];rfl
   rw [tk] at q;clear tk eE hE hl;simp only [p6 e2,List.length_map,h0,h1,VV];subst hN;left;simp only [r9 e2,ax,VV];clear ax e1 e2 h0 h1;subst hN;left;obtain ⟨ep,eq,ec,ek⟩:=E;have hpp:((ep:Int) == (p:Int))=decide (ep=p):=by first | exact Q3 _ _ | exact O3 _ _ | exact Q7 _ _
   cases w <;> cases ek
   case step.step t =>
    simp only [eD,Mv.w,hpp,VV]
    by_cases hp:ep=p
    ·subst hp;simp only [VV];subst hN;simp only [Mv.w,a5P,lkG,k_MOVE_TABLES,VV];refine ⟨t,_,_,d,e,rfl,o5,hw.2.2.2.1,hd,?_⟩
     by_cases hb:br t d e=true
     ·rw [if_pos ⟨rfl,rfl,hb⟩] at q;simp only [hb,VV];exact q
     ·rw [if_neg fun z=>hb z.2.2] at q;simp only [hb,VV];exact q
    ·rw [if_neg fun z=>hp z.2.1] at q;simp only [hp,VV];exact q
   case over.call g i b o =>
    simp only [eD,Mv.w,hpp,VV]
    by_cases hp:ep=p
    ·subst hp;simp only [VV];subst hN;obtain ⟨G,hG,t1,t2,t3⟩:=o5;simp only [Mv.w,a5P,lkG,k_MOVE_TABLES,VV];refine ⟨o,_,_,d,e,rfl,t3,hw.2.2.2.1,hd,?_⟩
     by_cases hb:br o d e=true
     ·rw [if_pos ⟨rfl,rfl,hb⟩] at q;simp only [hb,VV];exact q
     ·rw [if_neg fun z=>hb z.2.2] at q;simp only [hb,VV];exact q
    ·rw [if_neg fun z=>hp z.2.1] at q;simp only [hp,VV];exact q
   case inn.call g i b o =>
    simp only [eD,Mv.w,hpp,VV]
    by_cases hp:ep=p
    ·subst hp;simp only [VV];subst hN;obtain ⟨G,hG,t1,t2,t3⟩:=o5;simp only [Mv.w,a5P,lkG,k_MOVE_TABLES,VV];refine ⟨i,_,_,d,e,rfl,t1,(wf.fn g G hG).2.2.2.1,hd,?_⟩
     by_cases hb:br i d e=true
     ·rw [if_pos ⟨rfl,rfl,hb⟩] at q;simp only [hb,VV];exact q
     ·rw [if_neg fun z=>hb z.2.2] at q;simp only [hb,VV];exact q
    ·rw [if_neg fun z=>hp z.2.1] at q;simp only [hp,VV];exact q
   all_goals
    simp only [eD,Mv.w,VV];rw [if_neg fun z=>Bool.false_ne_true z.1] at q;exact q
  ·have eE:takes C f p d w n e=none:=by
    unfold takes B4;rw [if_pos h0,hf];show (F.edges[n.toNat]?).bind _=none;rw [List.getElem?_eq_none (by right)];rfl
   rw [eE] at q;simp only [p6 e2,List.length_map,h0,h1,VV];exact q
 ·have eE:takes C f p d w n e=none:=by unfold takes B4;rw [if_neg h0];rfl
  rw [eE] at q;simp only [p6 e2,List.length_map,h0,VV];exact q
theorem b4d{f:Addr}{fd:FuncData}(F:Fun K "edge_taken" "edge_taken" a8T f fd)(T:Txt P w K mg)(C_q23:Cal P w K mg base 2 "brings" ["table","d","e"] (spD K 3 a1c)):u7 P w K mg base CX0 3 f fd ["chart","here","move"] (spD K 3 X4) :=
 z8 (k:=2) (b:=a7k) F sc_q29 (fun cdv A outer s H E hr=>by
  refine b9 ?_ ?_
  ·refine g7 (i:=3) sc_q29.nd rfl (Or.inl rfl) ?_;exact c7 c6 (c7 c6 (sv 0) (c7 c6 (sv 1) a9)) a9
  refine b9 ?_ ?_
  ·exact g7 (i:=4) sc_q29.nd rfl (Or.inl rfl) (c7 c6 (sv 2) a9)
  refine b9 ?_ ?_
  ·refine p7 ?_ (d0 (g9 l7)) g6;exact A9 (B3 K5 F8 a9 (sv 4) (f9 n8 rfl T.b_len PySem.boot_len (a7 (sv 3) b8)))
  refine b9 ?_ ?_
  ·exact g7 (i:=5) sc_q29.nd rfl (Or.inl rfl) (c7 c6 (sv 3) (sv 4))
  refine b9 ?_ ?_
  ·refine p7 ?_ (d0 (g9 l7)) g6;exact F1 (B8 (e7 (E9 hr.units) (c7 c6 (sv 5) a9) (R8 (e7 (o7 hr.units) (c7 c6 (sv 2) a9) f8) f8 f8)) (B7 (e7 (E9 hr.units) (c7 c6 (sv 5) a9) (c7 c6 (sv 1) a9))))
  refine d0 ?_;refine g9 ?_;exact R8 (o8 (f7 C_q23 (hr.mono (by decide)) rfl (a7 (c7 c6 (sv 5) (b1J (kvs:=k_MOVE_TABLES) rfl T.c_MOVE_TABLES (c7 c6 (sv 2) a9))) (a7 (c7 c6 (sv 1) a9) (a7 (c7 c6 (sv 2) a9) b8))))) (sv 5) l7) b2f
def a7g:DS:=(d8 (j8 (l8 O1 (a8 (b7 1) (a8 (dOp pIx (b7 2) (dC (.int 1))) (a8 (dC (.str "within")) c8)))) (d7 3))
  (d8 (o9 (k7 (dOp (pIs false) (b7 3) (dC .non))) (l9 (dC .non)) k6)
  (d8 (j8 (dOp pIx (b7 3) (dC (.int 1))) (d7 4))
  (d8 (j8 (l8 X4 (a8 (b7 0) (a8 (t9 (a8 (b7 4) (a8 (dOp pIx (b7 3) (dC (.int 3))) (a8 (dOp pIx (b7 3) (dC (.int 4))) c8)))) (a8 (l8 X7 (a8 (b7 2) c8)) c8)))) (d7 5))
  (d8 (o9 (k7 (dOp (pIs false) (b7 5) (dC .non))) (l9 (dC .non)) k6)
  (l9 (t9 (a8 (dC (.str "within")) (a8 (b7 4) (a8 (dOp pIx (b7 3) (dC (.int 2))) (a8 (dOp pIx (b7 5) (dC (.int 2))) (a8 (dOp pIx (b7 2) (dC (.int 3))) (a8 (dOp u0 (dOp pIx (b7 3) (dC (.int 5))) (dOp pIx (b7 5) (dC (.int 3)))) c8)))))))))))))
def a4W:DSp:=fun ds h Q=>∃ (c a:D) (C:i9) (cs:List Clm) (st:Nat) (w:Mv) (k n e:Int),ds=[c,a,rD (.mv w k n e)]/\w ≠ .inn/\ChD h c C/\WF C/\w6 h a=some (cs.map clD)/\(∀ c ∈ cs,Q6 C c)/\Q (oD clD (i6 C st cs (.mv w k n e))) h
theorem b2z:∀ ds h Q,a4W ds h Q->k8 6 a7g ds h Q:=by
 rintro ds h Q ⟨c,a,C,cs,st,w,k,n,e,rfl,nw,hc,wf,ha,ok,q⟩
 delta k8 q8 a7g;simp only [VS];left;simp only [rD,VV];refine ⟨a,cs,k,true,rfl,ha,?_⟩;subst hN;left
 cases hb:A7 cs k true with
 |none =>
  have eq:i6 C st cs (.mv w k n e)=none:=by
   have hn:=Q1 hb
   cases w with
   |inn=>exact absurd rfl nw
   |_ =>
    show (match i7 cs k with | some (.within f a p d c)=>_ | _=>none)=none
    cases q2:i7 cs k with
    |none=>rfl
    |some x =>
     cases x with
     |within f a p d c=>exact absurd q2 (hn f a p d c)
     |«at» f p d c=>rfl
  rw [eq] at q;simp only [oD,VV];exact q
 |some b =>
  obtain ⟨f,a',p,d,x,rfl,hk⟩:=U6 hb;obtain ⟨F,hF,o1,o2,o3⟩:=B2 ok hk;simp only [oD,clD,VV];subst hN;left;simp only [VV];subst hN;left;simp only [VV];refine ⟨_,_,_,_,rfl,c,C,f,p,d,F,w,n,e,rfl,hc,wf,hF,o3,?_⟩
  have eq:i6 C st cs (.mv w k n e)=(takes C f p d w n e).map fun E=>.within f a' E.q e.toNat (x + E.cost):=by
   cases w with
   |inn=>exact absurd rfl nw
   |_ =>
    show (match i7 cs k with | some (.within f a p d c)=>_ | _=>none)=_;rw [hk]
  rw [eq] at q;subst hN;left
  cases ht:takes C f p d w n e with
  |none=>rw [ht] at q;simp only [oD,VV];exact q
  |some E =>
   rw [ht] at q;simp only [oD,a0s,VV];subst hN;simp only [b2l,b1T,VV];have he:0 <= e:=(M6 ht).2.2.2.2;have q:Q (.tup [.str "within",nD f,nD a',nD E.q,.int ((e.toNat:Nat):Int),.int ((x + E.cost:Nat):Int)]) h:=q;rw [Int.toNat_of_nonneg he,Int.natCast_add] at q;exact q
theorem b6b{f:Addr}{fd:FuncData}(F:Fun K "edge_claim" "edge_claim" a7Q f fd)(T:Txt P w K mg)(C_q24:Cal P w K mg base 1 "claim_ahead" ["ahead","k","sort"] (spD K 3 O1))(C_q35:Cal P w K mg base 1 "move_of" ["row"] (spD K 1 X7))(C_q29:Cal P w K mg base 3 "edge_taken" ["chart","here","move"] (spD K 3 X4)):u7 P w K mg base CX0 4 f fd ["chart","ahead","row"] (spD K 3 a4W) :=
 z8 (k:=3) (b:=a7g) F sc_q28 (fun cdv A outer s H E hr=>by
  refine b9 ?_ ?_
  ·refine g7 (i:=3) sc_q28.nd rfl (Or.inl rfl) ?_;exact f7 C_q24 (hr.mono (by decide)) rfl (a7 (sv 1) (a7 (c7 c6 (sv 2) a9) (a7 f8 b8)))
  refine b9 ?_ ?_
  ·exact p7 (e7 J1 (sv 3) l7) (d0 (g9 l7)) g6
  refine b9 ?_ ?_
  ·exact g7 (i:=4) sc_q28.nd rfl (Or.inl rfl) (c7 c6 (sv 3) a9)
  refine b9 ?_ ?_
  ·refine g7 (i:=5) ?_ ?_ ?_ ?_
   ·exact sc_q28.nd
   ·exact rfl
   ·exact Or.inl rfl
   exact f7 C_q29 (hr.mono (by decide)) rfl (a7 (sv 0) (a7 (i8 (a7 (sv 4) (a7 (c7 c6 (sv 3) a9) (a7 (c7 c6 (sv 3) a9) b8)))) (a7 (f7 C_q35 (hr.mono (by decide)) rfl (a7 (sv 2) b8)) b8)))
  refine b9 ?_ ?_
  ·exact p7 (e7 J1 (sv 5) l7) (d0 (g9 l7)) g6
  refine d0 ?_;refine g9 ?_;refine i8 (n:=6) ?_;refine a7 f8 ?_;refine a7 (sv 4) ?_;refine a7 (c7 c6 (sv 3) a9) ?_;refine a7 (c7 c6 (sv 5) a9) ?_;refine a7 (c7 c6 (sv 2) a9) ?_;refine a7 ?_ b8;exact g8 m7 (c7 c6 (sv 3) a9) (c7 c6 (sv 5) a9)) b2z
def a7n:DS:=(d8 (j8 (l8 O1 (a8 (b7 1) (a8 (dOp pIx (b7 2) (dC (.int 1))) (a8 (dC (.str "within")) c8)))) (d7 3))
  (d8 (j8 (l8 O1 (a8 (b7 1) (a8 (dOp pIx (b7 2) (dC (.int 3))) (a8 (dC (.str "within")) c8)))) (d7 4))
  (d8 (o9 (dOr (k7 (dOp (pIs false) (b7 3) (dC .non))) (k7 (dOp (pIs false) (b7 4) (dC .non)))) (l9 (dC .non)) k6)
  (d8 (j8 (dOp pIx (b7 3) (dC (.int 1))) (d7 5))
  (d8 (j8 (l8 X4 (a8 (b7 0) (a8 (t9 (a8 (b7 5) (a8 (dOp pIx (b7 3) (dC (.int 3))) (a8 (dOp pIx (b7 3) (dC (.int 4))) c8)))) (a8 (t9 (a8 (dC (.str "in")) (a8 (dOp pIx (b7 2) (dC (.int 2))) (a8 (dOp pIx (b7 4) (dC (.int 2))) c8)))) c8)))) (d7 6))
  (d8 (o9 (dOr (k7 (dOp (pIs false) (b7 6) (dC .non))) (dOr (k7 (dOp (pEq true) (dOp pIx (b7 6) (dC (.int 4))) (dOp pIx (b7 4) (dC (.int 1))))) (k7 (dOp (pEq true) (dOp pIx (b7 4) (dC (.int 3))) (l8 a4j (a8 (b7 0) (a8 (dOp pIx (b7 4) (dC (.int 1))) c8))))))) (l9 (dC .non)) k6)
  (d8 (o9 (M3 (dTr (l8 a1c (a8 (dOp pIx (b7 6) (dC (.int 6))) (a8 (dOp pIx (b7 4) (dC (.int 4))) (a8 (dOp pIx (b7 2) (dC (.int 4))) c8)))))) (l9 (dC .non)) k6)
  (l9 (t9 (a8 (dC (.str "within")) (a8 (b7 5) (a8 (dOp pIx (b7 3) (dC (.int 2))) (a8 (dOp pIx (b7 6) (dC (.int 2))) (a8 (dOp pIx (b7 2) (dC (.int 4))) (a8 (dOp u0 (dOp u0 (dOp pIx (b7 3) (dC (.int 5))) (dOp pIx (b7 6) (dC (.int 3)))) (dOp pIx (b7 4) (dC (.int 5)))) c8)))))))))))))))
def a4X:DSp:=fun ds h Q=>∃ (c a:D) (C:i9) (cs:List Clm) (st:Nat) (k n j e:Int),ds=[c,a,rD (.short k n j e)]/\ChD h c C/\WF C/\w6 h a=some (cs.map clD)/\(∀ c ∈ cs,Q6 C c)/\Q (oD clD (i6 C st cs (.short k n j e))) h
theorem a9X:∀ ds h Q,a4X ds h Q->k8 7 a7n ds h Q:=by
 rintro ds h Q ⟨c,a,C,cs,st,k,n,j,e,rfl,hc,wf,ha,ok,q⟩
 delta k8 q8 a7n;simp only [VS];left;simp only [rD,VV];refine ⟨a,cs,k,true,rfl,ha,?_⟩;subst hN;left;simp only [VV];refine ⟨a,cs,j,true,rfl,ha,?_⟩;subst hN;left
 cases hb:A7 cs k true with
 |none =>
  have eq:i6 C st cs (.short k n j e)=none:=by
   have hn:=Q1 hb;show (match i7 cs k,i7 cs j with | some (.within f a p d c),some (.within g b x y c')=>_ | _,_=>none)=none
   cases q2:i7 cs k with
   |none=>rfl
   |some x =>
    cases x with
    |within f a p d c=>exact absurd q2 (hn f a p d c)
    |«at» f p d c=>rfl
  rw [eq] at q;simp only [oD,VV];exact q
 |some b =>
  obtain ⟨f,a',p,d,x,rfl,hk⟩:=U6 hb;obtain ⟨F,hF,o1,o2,o3⟩:=B2 ok hk
  cases hb2:A7 cs j true with
  |none =>
   have eq:i6 C st cs (.short k n j e)=none:=by
    have hn:=Q1 hb2;show (match i7 cs k,i7 cs j with | some (.within f a p d c),some (.within g b x y c')=>_ | _,_=>none)=none;rw [hk]
    cases q2:i7 cs j with
    |none=>rfl
    |some x =>
     cases x with
     |within f a p d c=>exact absurd q2 (hn f a p d c)
     |«at» f p d c=>rfl
   rw [eq] at q;simp only [oD,clD,VV];exact q
  |some b2 =>
   obtain ⟨g,b,px,y,x',rfl,hk2⟩:=U6 hb2;obtain ⟨G,hG,p1,p2,p3⟩:=B2 ok hk2;simp only [oD,clD,VV];subst hN;left;simp only [VV];subst hN;left;simp only [VV];refine ⟨c,C,f,p,d,F,.inn,n,(b:Int),rfl,hc,wf,hF,o3,?_⟩;subst hN;left
   have eq:i6 C st cs (.short k n j e)=(takes C f p d .inn n b).bind fun E=>match E.k with
     |.call g' _ bk _=>(C[g']?).bind fun G=>if g'=g/\px + 1=G.places/\br bk y e=true then some (.within f a' E.q e.toNat (x + E.cost + x')) else none
     |_=>none:=by
    show (match i7 cs k,i7 cs j with | some (.within f a p d c),some (.within g b x y c')=>_ | _,_=>none)=_;rw [hk,hk2] <;> rfl
   rw [eq] at q
   cases ht:takes C f p d .inn n b with
   |none=>rw [ht] at q;simp only [oD,VV];exact q
   |some E =>
    rw [ht] at q;obtain ⟨F',g',i,bk,o,G',hF',hk',hG',t1,t2,t3,_,_,_,_⟩:=U8 wf ht;obtain ⟨ep,eq',ec,ek⟩:=E;dsimp only at hk';subst hk';rw [hF] at hF';cases hF'
    have q:Q (oD clD ((C[g']?).bind fun G=>if g'=g/\px + 1=G.places/\br bk y e=true then some (.within f a' eq' e.toNat (x + ec + x')) else none)) h:=q;rw [hG'] at q;have q:Q (oD clD (if g'=g/\px + 1=G'.places/\br bk y e=true then some (.within f a' eq' e.toNat (x + ec + x')) else none)) h:=q;have e1:((g':Int) == (g:Int))=decide (g'=g):=by first | exact Q3 _ _ | exact O3 _ _ | exact Q7 _ _
    simp only [oD,eD,e1,VV]
    by_cases h1:g'=g
    ·subst h1;rw [hG] at hG';cases hG'
     simp only [VV];refine ⟨c,C,g',G,rfl,hc,hG,?_⟩;have e2:((px:Int) == (G.places:Int) - 1)=decide (px + 1=G.places):=by first | exact Q3 _ _ | exact O3 _ _ | exact Q7 _ _
     simp only [e2,VV]
     by_cases h2:px + 1=G.places
     ·simp only [h2,VV];subst hN;left;simp only [VV];refine ⟨bk,_,_,y,e,rfl,t2,(wf.fn f F hF).2.2.2.1,p3,?_⟩
      by_cases h3:br bk y e=true
      ·rw [if_pos ⟨rfl,h2,h3⟩] at q;simp only [h3,VV];subst hN;simp only [VV];have he:0 <= e:=by unfold br at h3;rw [Bool.and_eq_true] at h3;exact of_decide_eq_true h3.1
       have q:Q (.tup [.str "within",nD f,nD a',nD eq',.int ((e.toNat:Nat):Int),.int ((x + ec + x':Nat):Int)]) h:=q;rw [Int.toNat_of_nonneg he,Int.natCast_add,Int.natCast_add] at q;exact q
      ·rw [if_neg (fun z=>h3 z.2.2)] at q;simp only [h3,VV];exact q
     ·rw [if_neg (fun z=>h2 z.2.1)] at q;simp only [h2,VV];exact q
    ·rw [if_neg (fun z=>h1 z.1)] at q;simp only [h1,VV];exact q
theorem b5O{f:Addr}{fd:FuncData}(F:Fun K "short_claim" "short_claim" a8M f fd)(T:Txt P w K mg)(C_q24:Cal P w K mg base 1 "claim_ahead" ["ahead","k","sort"] (spD K 3 O1))(C_q29:Cal P w K mg base 3 "edge_taken" ["chart","here","move"] (spD K 3 X4))(C_q30:Cal P w K mg base 1 "exit_of" ["chart","f"] (spD K 2 a4j))(C_q23:Cal P w K mg base 2 "brings" ["table","d","e"] (spD K 3 a1c)):u7 P w K mg base CX0 4 f fd ["chart","ahead","row"] (spD K 3 a4X) :=
 z8 (k:=3) (b:=a7n) F sc_q38 (fun cdv A outer s H E hr=>by
  refine b9 ?_ ?_
  ·refine g7 (i:=3) sc_q38.nd rfl (Or.inl rfl) ?_;exact f7 C_q24 (hr.mono (by decide)) rfl (a7 (sv 1) (a7 (c7 c6 (sv 2) a9) (a7 f8 b8)))
  refine b9 ?_ ?_
  ·refine g7 (i:=4) sc_q38.nd rfl (Or.inl rfl) ?_;exact f7 C_q24 (hr.mono (by decide)) rfl (a7 (sv 1) (a7 (c7 c6 (sv 2) a9) (a7 f8 b8)))
  refine b9 ?_ ?_
  ·refine p7 ?_ (d0 (g9 l7)) g6;exact F1 (B8 (e7 J1 (sv 3) l7) (B7 (e7 J1 (sv 4) l7)))
  refine b9 ?_ ?_
  ·exact g7 (i:=5) sc_q38.nd rfl (Or.inl rfl) (c7 c6 (sv 3) a9)
  refine b9 ?_ ?_
  ·refine g7 (i:=6) ?_ ?_ ?_ ?_
   ·exact sc_q38.nd
   ·exact rfl
   ·exact Or.inl rfl
   exact f7 C_q29 (hr.mono (by decide)) rfl (a7 (sv 0) (a7 (i8 (a7 (sv 5) (a7 (c7 c6 (sv 3) a9) (a7 (c7 c6 (sv 3) a9) b8)))) (a7 (i8 (a7 f8 (a7 (c7 c6 (sv 2) a9) (a7 (c7 c6 (sv 4) a9) b8)))) b8)))
  refine b9 ?_ ?_
  ·refine p7 ?_ (d0 (g9 l7)) g6;exact F1 (B8 (e7 J1 (sv 6) l7) (B8 (e7 (E9 hr.units) (c7 c6 (sv 6) a9) (c7 c6 (sv 4) a9)) (B7 (e7 (E9 hr.units) (c7 c6 (sv 4) a9) (f7 C_q30 (hr.mono (by decide)) rfl (a7 (sv 0) (a7 (c7 c6 (sv 4) a9) b8)))))))
  refine b9 ?_ ?_
  ·refine p7 ?_ (d0 (g9 l7)) g6;exact A9 (o8 (f7 C_q23 (hr.mono (by decide)) rfl (a7 (c7 c6 (sv 6) a9) (a7 (c7 c6 (sv 4) a9) (a7 (c7 c6 (sv 2) a9) b8)))))
  refine d0 ?_;refine g9 ?_;refine i8 (n:=6) ?_;refine a7 f8 ?_;refine a7 (sv 5) ?_;refine a7 (c7 c6 (sv 3) a9) ?_;refine a7 (c7 c6 (sv 6) a9) ?_;refine a7 (c7 c6 (sv 2) a9) ?_;refine a7 ?_ b8;exact g8 m7 (g8 m7 (c7 c6 (sv 3) a9) (c7 c6 (sv 6) a9)) (c7 c6 (sv 4) a9)) a9X
def a8Z:DS:=(d8 (j8 (l8 O1 (a8 (b7 1) (a8 (dOp pIx (b7 2) (dC (.int 1))) (a8 (dC (.str "at")) c8)))) (d7 3))
  (d8 (o9 (k7 (dOp (pIs false) (b7 3) (dC .non))) (l9 (dC .non)) k6)
  (d8 (j8 (l8 X4 (a8 (b7 0) (a8 (t9 (a8 (dOp pIx (b7 3) (dC (.int 1))) (a8 (dOp pIx (b7 3) (dC (.int 2))) (a8 (dOp pIx (b7 3) (dC (.int 3))) c8)))) (a8 (l8 X7 (a8 (b7 2) c8)) c8)))) (d7 4))
  (l9 (dIf (k7 (dOp (pIs false) (b7 4) (dC .non))) (dC .non) (t9 (a8 (dC (.str "at")) (a8 (dOp pIx (b7 4) (dC (.int 4))) (a8 (dC (.int 0)) (a8 (dOp pIx (b7 2) (dC (.int 3))) (a8 (dOp u0 (dOp pIx (b7 3) (dC (.int 4))) (dOp pIx (b7 4) (dC (.int 3)))) c8)))))))))))
def a5b:DSp:=fun ds h Q=>∃ (c a:D) (C:i9) (cs:List Clm) (st:Nat) (k n e:Int),ds=[c,a,rD (.mv .inn k n e)]/\ChD h c C/\WF C/\w6 h a=some (cs.map clD)/\(∀ c ∈ cs,Q6 C c)/\Q (oD clD (i6 C st cs (.mv .inn k n e))) h
theorem b0o:∀ ds h Q,a5b ds h Q->k8 5 a8Z ds h Q:=by
 rintro ds h Q ⟨c,a,C,cs,st,k,n,e,rfl,hc,wf,ha,ok,q⟩
 delta k8 q8 a8Z;simp only [VS];left;simp only [rD,VV];refine ⟨a,cs,k,false,rfl,ha,?_⟩;subst hN;left
 cases hb:A7 cs k false with
 |none =>
  have eq:i6 C st cs (.mv .inn k n e)=none:=by
   have hn:=a0Q hb;show (match i7 cs k with | some (.at f p d c)=>_ | _=>none)=none
   cases q2:i7 cs k with
   |none=>rfl
   |some x =>
    cases x with
    |within f a p d c=>rfl
    |«at» f p d c=>exact absurd q2 (hn f p d c)
  rw [eq] at q;simp only [oD,VV];exact q
 |some b =>
  obtain ⟨f,p,d,x,rfl,hk⟩:=a2F hb;obtain ⟨F,hF,o1,o2⟩:=B2 ok hk;simp only [oD,clD,VV];subst hN;left;simp only [VV];refine ⟨_,_,_,_,rfl,c,C,f,p,d,F,.inn,n,e,rfl,hc,wf,hF,o2,?_⟩
  have eq:i6 C st cs (.mv .inn k n e)=(takes C f p d .inn n e).bind fun E=>match E.k with | .call g _ _ _=>some (.at g 0 e.toNat (x + E.cost)) | _=>none:=by
   show (match i7 cs k with | some (.at f p d c)=>_ | _=>none)=_;rw [hk] <;> rfl
  rw [eq] at q;subst hN
  cases ht:takes C f p d .inn n e with
  |none=>rw [ht] at q;simp only [oD,VV];exact q
  |some E =>
   rw [ht] at q;obtain ⟨F',g,i,b,o,G,_,hk',_,_,_,_,_,_,_,he⟩:=U8 wf ht;obtain ⟨ep,eq',ec,ek⟩:=E;dsimp only at hk';subst hk';simp only [oD,eD,VV];have q:Q (.tup [.str "at",nD g,nD 0,.int ((e.toNat:Nat):Int),.int ((x + ec:Nat):Int)]) h:=q;rw [Int.toNat_of_nonneg he,Int.natCast_add] at q;exact q
theorem b4Y{f:Addr}{fd:FuncData}(F:Fun K "in_claim" "in_claim" a7t f fd)(T:Txt P w K mg)(C_q24:Cal P w K mg base 1 "claim_ahead" ["ahead","k","sort"] (spD K 3 O1))(C_q35:Cal P w K mg base 1 "move_of" ["row"] (spD K 1 X7))(C_q29:Cal P w K mg base 3 "edge_taken" ["chart","here","move"] (spD K 3 X4)):u7 P w K mg base CX0 4 f fd ["chart","ahead","row"] (spD K 3 a5b) :=
 z8 (k:=3) (b:=a8Z) F sc_q33 (fun cdv A outer s H E hr=>by
  refine b9 ?_ ?_
  ·refine g7 (i:=3) sc_q33.nd rfl (Or.inl rfl) ?_;exact f7 C_q24 (hr.mono (by decide)) rfl (a7 (sv 1) (a7 (c7 c6 (sv 2) a9) (a7 f8 b8)))
  refine b9 ?_ ?_
  ·exact p7 (e7 J1 (sv 3) l7) (d0 (g9 l7)) g6
  refine b9 ?_ ?_
  ·refine g7 (i:=4) ?_ ?_ ?_ ?_
   ·exact sc_q33.nd
   ·exact rfl
   ·exact Or.inl rfl
   exact f7 C_q29 (hr.mono (by decide)) rfl (a7 (sv 0) (a7 (i8 (a7 (c7 c6 (sv 3) a9) (a7 (c7 c6 (sv 3) a9) (a7 (c7 c6 (sv 3) a9) b8)))) (a7 (f7 C_q35 (hr.mono (by decide)) rfl (a7 (sv 2) b8)) b8)))
  refine d0 ?_;refine g9 ?_;exact R8 (e7 J1 (sv 4) l7) l7 (i8 (a7 f8 (a7 (c7 c6 (sv 4) a9) (a7 a9 (a7 (c7 c6 (sv 2) a9) (a7 (g8 m7 (c7 c6 (sv 3) a9) (c7 c6 (sv 4) a9)) b8))))))) b0o
def T8:DS:=(d8 (o9 (k7 (dOp (pEq false) (dOp pIx (b7 3) (dC (.int 0))) (dC (.str "begin")))) (l9 (l8 a4l (a8 (b7 0) (a8 (b7 3) c8)))) k6)
  (d8 (o9 (k7 (dOp (pEq false) (dOp pIx (b7 3) (dC (.int 0))) (dC (.str "start")))) (l9 (l8 a4e (a8 (b7 0) (a8 (b7 1) (a8 (b7 3) c8))))) k6)
  (d8 (o9 (k7 (dOp (pEq false) (dOp pIx (b7 3) (dC (.int 0))) (dC (.str "short")))) (l9 (l8 a4X (a8 (b7 0) (a8 (b7 2) (a8 (b7 3) c8))))) k6)
  (d8 (o9 (k7 (dOp (pEq false) (dOp pIx (b7 3) (dC (.int 0))) (dC (.str "in")))) (l9 (l8 a5b (a8 (b7 0) (a8 (b7 2) (a8 (b7 3) c8))))) k6)
  (d8 (o9 (k7 (dOp (pEq false) (dOp pIx (b7 3) (dC (.int 0))) (dC (.str "along")))) (l9 (l8 a4J (a8 (b7 2) (a8 (b7 3) c8)))) k6)
  (l9 (l8 a4W (a8 (b7 0) (a8 (b7 2) (a8 (b7 3) c8))))))))))
def a4B:DSp:=fun ds h Q=>∃ (c a:D) (C:i9) (cs:List Clm) (st:Nat) (r:Row),ds=[c,nD st,a,rD r]/\ChD h c C/\WF C/\w6 h a=some (cs.map clD)/\(∀ c ∈ cs,Q6 C c)/\Q (oD clD (i6 C st cs r)) h
theorem b0V:∀ ds h Q,a4B ds h Q->k8 4 T8 ds h Q:=by
 rintro ds h Q ⟨c,a,C,cs,st,r,rfl,hc,wf,ha,ok,q⟩
 cases r with
 |begin f d=>delta k8 q8 T8;simp only [VS];left;simp only [rD,VV];exact ⟨c,C,cs,st,f,d,rfl,hc,q⟩
 |start d=>delta k8 q8 T8;simp only [VS];left;simp only [rD,VV];subst hN;left;simp only [VV];exact ⟨c,C,cs,st,d,rfl,hc,wf,q⟩
 |short k n j e=>delta k8 q8 T8;simp only [VS];left;simp only [rD,VV];subst hN;left;simp only [VV];subst hN;left;simp only [VV];exact ⟨c,a,C,cs,st,k,n,j,e,rfl,hc,wf,ha,ok,q⟩
 |along k j=>delta k8 q8 T8;simp only [VS];left;simp only [rD,VV];subst hN;left;simp only [VV];subst hN;left;simp only [VV];subst hN;left;simp only [VV];subst hN;left;simp only [VV];exact ⟨a,C,cs,st,k,j,rfl,ha,q⟩
 |mv w k n e =>
  cases w with
  |inn=>delta k8 q8 T8;simp only [VS];left;simp only [rD,Mv.w,VV];subst hN;left;simp only [VV];subst hN;left;simp only [VV];subst hN;left;simp only [VV];exact ⟨c,a,C,cs,st,k,n,e,rfl,hc,wf,ha,ok,q⟩
  |step=>delta k8 q8 T8;simp only [VS];left;simp only [rD,Mv.w,VV];subst hN;left;simp only [VV];subst hN;left;simp only [VV];subst hN;left;simp only [VV];subst hN;left;simp only [VV];subst hN;simp only [VV];exact ⟨c,a,C,cs,st,.step,k,n,e,rfl,by decide,hc,wf,ha,ok,q⟩
  |over=>delta k8 q8 T8;simp only [VS];left;simp only [rD,Mv.w,VV];subst hN;left;simp only [VV];subst hN;left;simp only [VV];subst hN;left;simp only [VV];subst hN;left;simp only [VV];subst hN;simp only [VV];exact ⟨c,a,C,cs,st,.over,k,n,e,rfl,by decide,hc,wf,ha,ok,q⟩
theorem b6t{f:Addr}{fd:FuncData}(F:Fun K "claim_of" "claim_of" a9k f fd)(T:Txt P w K mg)(C_q22:Cal P w K mg base 1 "begin_claim" ["chart","row"] (spD K 2 a4l))(C_q39:Cal P w K mg base 2 "start_claim" ["chart","start","row"] (spD K 3 a4e))(C_q38:Cal P w K mg base 4 "short_claim" ["chart","ahead","row"] (spD K 3 a4X))(C_q33:Cal P w K mg base 4 "in_claim" ["chart","ahead","row"] (spD K 3 a5b))(C_q21:Cal P w K mg base 2 "along_claim" ["ahead","row"] (spD K 2 a4J))(C_q28:Cal P w K mg base 4 "edge_claim" ["chart","ahead","row"] (spD K 3 a4W)):u7 P w K mg base CX0 5 f fd ["chart","start","ahead","row"] (spD K 4 a4B) :=
 z8 (k:=4) (b:=T8) F b5W (fun cdv A outer s H E hr=>by
  refine b9 ?_ ?_
  ·refine p7 (e7 (o7 hr.units) (c7 c6 (sv 3) a9) f8) ?_ g6;refine d0 ?_;exact g9 (f7 C_q22 (hr.mono (by decide)) rfl (a7 (sv 0) (a7 (sv 3) b8)))
  refine b9 ?_ ?_
  ·refine p7 (e7 (o7 hr.units) (c7 c6 (sv 3) a9) f8) ?_ g6;refine d0 ?_;refine g9 ?_;exact f7 C_q39 (hr.mono (by decide)) rfl (a7 (sv 0) (a7 (sv 1) (a7 (sv 3) b8)))
  refine b9 ?_ ?_
  ·refine p7 (e7 (o7 hr.units) (c7 c6 (sv 3) a9) f8) ?_ g6;refine d0 ?_;refine g9 ?_;exact f7 C_q38 (hr.mono (by decide)) rfl (a7 (sv 0) (a7 (sv 2) (a7 (sv 3) b8)))
  refine b9 ?_ ?_
  ·refine p7 (e7 (o7 hr.units) (c7 c6 (sv 3) a9) f8) ?_ g6;refine d0 ?_;refine g9 ?_;exact f7 C_q33 (hr.mono (by decide)) rfl (a7 (sv 0) (a7 (sv 2) (a7 (sv 3) b8)))
  refine b9 ?_ ?_
  ·refine p7 (e7 (o7 hr.units) (c7 c6 (sv 3) a9) f8) ?_ g6;refine d0 ?_;exact g9 (f7 C_q21 (hr.mono (by decide)) rfl (a7 (sv 2) (a7 (sv 3) b8)))
  refine d0 ?_;refine g9 ?_;exact f7 C_q28 (hr.mono (by decide)) rfl (a7 (sv 0) (a7 (sv 2) (a7 (sv 3) b8)))) b0V
def a0M:DS:=(d8 (j8 (dTk c8) (d7 3))
  (d8 (O5 (G2 (b7 2)) (d7 4) (d8 (j8 (l8 a4B (a8 (b7 0) (a8 (b7 1) (a8 (b7 3) (a8 (b7 4) c8))))) (d7 5))
  (d8 (o9 (k7 (dOp (pIs false) (b7 5) (dC .non))) a8m k6)
  (F2 (B6 (b7 3) (a8 (b7 5) c8))))))
  (l9 (b7 3))))
def a4m:DSp:=fun ds h Q=>∃ (c a:D) (C:i9) (rs:List Row) (st:Nat) (cs:List Clm),ds=[c,nD st,a]/\ChD h c C/\WF C/\w6 h a=some (rs.map rD)/\rs.length <= 100000/\D8 C st rs []=some cs/\Q (.ref h.length) (h ++ [.lst (cs.map clD)])
theorem b2C:∀ ds h Q,a4m ds h Q->k8 6 a0M ds h Q:=by
 rintro ds h Q ⟨c,a,C,rs,st,cs,rfl,hc,wf,ha,hl,hcs,q⟩
 have p0:Pre h (h ++ [.lst []]):=Pre.app _ _;obtain ⟨w,e1,e2,e3⟩:=a3g (p0.ls ha);simp only [e1,↓a0M,↓k8,↓d8,↓q8,VV];refine w5 (fun p δ h'=>∃ (cl:List Clm) (x1 x2:Option D),δ=[some c,some (nD st),some a,some (.ref h.length),x1,x2]/\h'=h ++ [.lst (cl.map clD)]/\(∀ c ∈ cl,Q6 C c)/\cl.length=p.length/\D8 C st (rs.drop p.length) cl=some cs) ⟨[],none,none,rfl,rfl,(fun c hc=>nomatch hc),rfl,hcs⟩ ?_ ?_ ?_
 ·rintro p δ h' ⟨cl,x1,x2,rfl,rfl,_⟩ z hz
  obtain ⟨i,e4,e5⟩:=e3 z hz;subst e4 e5
  have hi:i < h.length:=by
   rcases Nat.lt_or_ge i h.length with y | y
   ·exact y
   ·have ha':w6 h (.ref i)=some (rs.map rD):=ha
    have:(match h[i]? with | some (.lst xs)=>some xs | _=>none)=some (rs.map rD):=ha'
    rw [List.getElem?_eq_none y] at this;cases this
  have ok:=e2 _ hz;rw [List.getElem?_append_left hi] at ok ⊢;exact ok
 ·rintro p r rest δ h' N e ⟨cl,x1,x2,rfl,rfl,ok,hlen,hall⟩ hN
  have p1:Pre h (h ++ [.lst (cl.map clD)]):=Pre.app _ _;have hd:rs.drop p.length=r :: rest:=by rw [e];simp
  rw [hd] at hall;have hall:((i6 C st cl r).bind fun c=>D8 C st rest (cl ++ [c]))=some cs:=hall;simp only [↓a0M,↓k8,↓d8,↓q8,VV];refine ⟨c,.ref h.length,C,cl,st,r,rfl,hc.mono p1,wf,T0 _ _,ok,?_⟩
  cases hr:i6 C st cl r with
  |none=>rw [hr] at hall;cases hall
  |some k =>
   rw [hr] at hall;simp only [oD,b0Z,t8,A2,↓a0M,↓k8,↓d8,↓q8,VV];have hb:cl.length < rs.length:=by rw [hlen,e];simp
   refine ⟨by rw [List.length_map];omega,hN _ _ ⟨cl ++ [k],_,_,rfl,by rw [List.map_append];rfl,fun c hc'=>?_,by simp [hlen],?_⟩⟩
   ·rcases List.mem_append.mp hc' with z | z
    ·exact ok c z
    ·rw [List.mem_singleton.mp z];exact a2D wf ok hr
   ·have hd2:rs.drop (p ++ [r]).length=rest:=by rw [e];simp
    rw [hd2];exact hall
 ·rintro δ h' ⟨cl,x1,x2,rfl,rfl,ok,hlen,hall⟩
  rw [List.drop_length] at hall;cases hall;simp only [↓a0M,↓k8,↓d8,↓q8,VV];exact q
theorem b5w{f:Addr}{fd:FuncData}(F:Fun K "claims" "claims" a7q f fd)(T:Txt P w K mg)(C_q25:Cal P w K mg base 5 "claim_of" ["chart","start","ahead","row"] (spD K 4 a4B)):u7 P w K mg base CX0 6 f fd ["chart","start","rows"] (spD K 3 a4m) :=
 z8 (k:=5) (b:=a0M) F sc_q26 (fun cdv A outer s H E hr=>by
  refine b9 ?_ ?_
  ·exact g7 (i:=3) sc_q26.nd rfl (Or.inl rfl) (S9 (t7 b8))
  refine b9 ?_ (d0 (g9 (sv 3)));refine J0 PassesOwn.never rfl (B9 (sv 2)) (j9 (i:=4) sc_q26.nd rfl (Or.inl rfl)) ?_;refine b9 ?_ ?_
  ·refine g7 (i:=5) sc_q26.nd rfl (Or.inl rfl) ?_;exact f7 C_q25 (hr.mono (by decide)) rfl (a7 (sv 0) (a7 (sv 1) (a7 (sv 3) (a7 (sv 4) b8))))
  refine b9 ?_ (d0 (B5 (z5 (sv 3) (a7 (sv 5) b8))));exact p7 (e7 J1 (sv 5) l7) (d0 b0f) g6) b2C
def a2q:DS:=(d8 (o9 (M3 (k7 (D6 pLe Q4 (dC (.int 0)) (b7 3) (dCB A0 (a8 (b7 2) c8))))) (a3j "NoPaper" ["row"] (a8 (b7 3) c8)) k6)
  (d8 (j8 (dSl (b7 2) U5 (a0d (dOp u0 (b7 3) (dC (.int 1))))) (d7 5))
  (d8 (j8 (l8 a4m (a8 (b7 0) (a8 (dOp M2 (dOp a5o (dC (.int 1)) (dOp pIx (dOp pIx (b7 0) (dC (.int 0))) (dC (.int 1)))) (dC (.int 1))) (a8 (b7 5) c8)))) (d7 6))
  (d8 (o9 (k7 (dOp (pEq true) (dOp pIx (dOp pIx (b7 6) (b7 3)) (dC (.int 0))) (dC (.str "at")))) (a3j "NoPaper" ["row"] (a8 (b7 3) c8)) k6)
  (d8 (j8 (dV (G4 [none,some 6] (G2 (b7 5)) (d7 0) M7 (l8 a4p (a8 (b7 1) (a8 (b7 0) c8))))) (d7 7))
  (d8 (o9 (k7 (dOp pGt (l8 a4A (a8 (b7 7) (a8 (b7 4) c8))) (b7 4))) (a5h "TooLong" [3,4]) k6)
  (l9 (t9 (a8 (l8 a4g (a8 (b7 5) (a8 (b7 3) c8))) (a8 (l8 a4G (a8 (b7 7) (a8 (b7 3) c8))) c8))))))))))
def UA(ds:List D)(h:Hh)(C:i9)(st:Nat)(rs:List Row)(cs:List Clm)(ws:List (List GM))(vs:List Nat)(k:Int)(most:Nat):Prop:=∃ (c s a:D) (F:Fn),ds=[c,s,a,.int k,nD most]/\ChD h c C/\WF C/\C[0]?=some F/\w6 h a=some (rs.map rD)/\rs.length <= 3000/\most <= 400/\(k.natAbs <= 2 ^ 70)/\PR C st rs cs ws vs
def UE(h:Hh)(Q:DK)(X':DX)(rs:List Row)(k:Int)(most:Nat)(w:List GM):Clm->Prop
 |.within ..=>X' "NoPaper" [("row",k)] h
 |.at ..=>(most < w.length->X' "TooLong" [] h)/\(w.length <= most->∀ a:Int,First rs k.toNat a->Q (.tup [.int a,.lst (w.map gmD)]) h)
def K1:V6:=fun ds h Q X'=>∃ (C:i9) (st:Nat) (rs:List Row) (cs:List Clm) (ws:List (List GM)) (vs:List Nat) (k:Int) (most:Nat),UA ds h C st rs cs ws vs k most/\(¬ (0 <= k/\k < rs.length)->X' "NoPaper" [("row",k)] h)/\(∀ c w,0 <= k->cs[k.toNat]?=some c->ws[k.toNat]?=some w->UE h Q X' (rs.take (k.toNat + 1)) k most w c)
theorem a1b{i:Nat}(h:i <= 90000):(i:Int).natAbs.log2 < 1920:=by
 rw [Int.natAbs_natCast]
 rcases Nat.eq_zero_or_pos i with z | z
 ·subst z;decide
 ·exact Nat.lt_of_lt_of_le ((Nat.log2_lt (by right)).mpr (show i < 2 ^ 17 by right)) (by decide)
theorem a8x(xs:List D)(k:Nat)(hk:k < xs.length):U3 xs none (some ((k:Int) + 1))=xs.take (k + 1):=by
 unfold U3
 rw [show HT.sIx xs.length 0 none=0 from rfl,show HT.sIx xs.length xs.length (some ((k:Int) + 1))=k + 1 by
  have:=HT.sIx_nat xs.length xs.length (k + 1)
  rw [Int.natCast_add] at this;rw [show (k:Int) + 1=(k:Int) + ((1:Nat):Int) from rfl,this];omega]
 rfl
theorem a1p{k:Int}(h:k.natAbs <= 2 ^ 70):k.natAbs.log2 < 1920:=by
 rcases Nat.eq_zero_or_pos k.natAbs with z | z
 ·rw [z];decide
 ·exact Nat.lt_of_lt_of_le ((Nat.log2_lt (by right)).mpr (show k.natAbs < 2 ^ 71 by right)) (by decide)
theorem b4E{En:K4}{c s a m:D}{k:Nat}{h:Hh}{xs:List D}(e:w6 h a=some xs)(q:En.nx [some c,some s,some a,some (nD k),some m,some (.lst (U3 xs none (some ((k:Int) + 1)))),none,none] h):j8 (dSl (b7 2) U5 (a0d (dOp u0 (b7 3) (dC (.int 1))))) (d7 5) En [some c,some s,some a,some (nD k),some m,none,none,none] h:=by
 cases a with
 |lst ys=>cases e;simp only [VV];exact q
 |scr ys=>cases e;simp only [VV];exact q
 |ref i=>simp only [e,VV];exact q
 |_=>cases e
theorem b1b:∀ ds h Q X',K1 ds h Q X'->q8 8 a2q ds h (Dr h Q) (DrX h X'):=by
 rintro ds h Q X' ⟨C,st,rs,cs,ws,vs,k,most,⟨c,s,a,F,rfl,hc,wf,hF,ha,hl,hm,hk,pr⟩,y1,y2⟩
 have F6:=(wf.fn 0 F hF).2.2.2.1;obtain ⟨xe,e1,e2⟩:=hc.fn hF;have e1:ixD h c (.int 0)=some (.tup [nD F.places,nD F.facts,xe]):=e1;delta k8 q8 a2q;simp only [VS];left
 by_cases kk:0 <= k/\k < rs.length
 ·obtain ⟨k0,k1⟩:=kk;have k1':k < ((rs.map rD).length:Int):=by rw [List.length_map];exact k1
  obtain ⟨kn,rfl⟩:∃ kn:Nat,k=(kn:Int):=⟨k.toNat,by right⟩
  have kl:kn < rs.length:=by right
  obtain ⟨lc,lw,lv⟩:=pr.lens;have pp:=(pr.prefix (kn + 1) (by right)).full hF;generalize hrs:rs.take (kn + 1)=rs' at pp;generalize hcs:cs.take (kn + 1)=cs' at pp;generalize hws:ws.take (kn + 1)=ws' at pp;generalize hvs:vs.take (kn + 1)=vs' at pp;have rl:rs'.length=kn + 1:=by rw [<- hrs,List.length_take];omega
  obtain ⟨lc',lw',lv'⟩:=pp.lens
  have ct:U3 (rs.map rD) none (some ((kn:Int) + 1))=rs'.map rD:=by
   rw [a8x _ _ (by rw [List.length_map];omega),<- List.map_take,hrs]
  have sub:((2 ^ F.facts:Nat):Int) - 1=((2 ^ F.facts - 1:Nat):Int):=by have:=Nat.two_pow_pos F.facts;omega
  have mm:(rs'.map fun r=>D.lst ((k9 cs' r).map ptD))=(rs'.map (k9 cs')).map fun p=>.lst (p.map ptD):=by rw [List.map_map];rfl
  obtain ⟨cl,hcl⟩:∃ c,cs'[kn]?=some c:=⟨_,List.getElem?_eq_getElem (by right)⟩
  obtain ⟨w,hw⟩:∃ c,ws'[kn]?=some c:=⟨_,List.getElem?_eq_getElem (by right)⟩
  obtain ⟨v,hv⟩:∃ c,vs'[kn]?=some c:=⟨_,List.getElem?_eq_getElem (by right)⟩
  have hcl0:cs[kn]?=some cl:=by rw [<- hcs,List.getElem?_take_of_lt (by right)] at hcl;exact hcl
  have hw0:ws[kn]?=some w:=by rw [<- hws,List.getElem?_take_of_lt (by right)] at hw;exact hw
  have y2:=y2 cl w k0 (by rw [Int.toNat_natCast];exact hcl0) (by rw [Int.toNat_natCast];exact hw0);rw [Int.toNat_natCast,hrs] at y2;simp only [p6 ha,k0,k1',VV];subst hN;left;refine b4E ha ?_;rw [ct];subst hN;left;simp only [e1,VV];refine ⟨⟨by right,by right,by decide⟩,?_⟩;rw [b0w,sub];refine ⟨c,_,C,rs',2 ^ F.facts - 1,cs',rfl,hc,wf,rfl,by right,pp.cl,?_⟩;subst hN;left;have ax:atI (cs'.map clD) (kn:Int)=some (clD cl):=by rw [atN,List.getElem?_map,hcl];rfl
  cases cl with
  |within f a' p d x =>
   simp only [r9 (T0 h _),ax,clD,VV];exact ⟨[(kn:Int)],rfl,rfl,fun i hi=>by rw [List.mem_singleton.mp hi];exact a1p hk,Dr.drop rfl y2⟩
  |«at» f p d x =>
   simp only [r9 (T0 h _),ax,clD,VV];obtain ⟨y3,y4⟩:=y2;obtain ⟨a0,o,F',ff,_⟩:=pp.gone kn _ w hcl hw;have tk:=pp.takes kn _ w v hcl hw hv;dsimp only at tk;subst hN;left;simp only [VV];refine ⟨by rw [List.length_map];omega,?_⟩;refine N0 (fun r=>.lst ((k9 cs' r).map ptD)) Src.ok_nil none (fun r hr K kk=>?_) ?_
   ·simp only [VV];exact ⟨_,cs',r,rfl,T0 h _,pp.fit r hr,kk⟩
   rw [mm];subst hN;left;simp only [VV];have lps:(rs'.map (k9 cs')).length=kn + 1:=by rw [List.length_map];exact rl
   refine ⟨_,ws',vs',most,w,rfl,pp.fl,by right,by rw [lps];exact hw,?_⟩
   by_cases z:w.length <= most
   ·have z2:¬ ((most:Int) < ((min w.length (most + 1):Nat):Int)):=by right
    simp only [z2,VV];subst hN;have b2:=y4 z a0 (by rw [Int.toNat_natCast];exact ff);simp only [VV];refine ⟨_,rs',kn,a0,rfl,rfl,ff,?_⟩;refine ⟨_,ws',vs',kn,w,v,rfl,pp.fl,hw,hv,by right,by right,?_⟩;exact Dr.drop (by show (true && (L6 (w.map gmD) && true))=true;rw [E6 a6S];rfl) b2
   ·have z2:(most:Int) < ((min w.length (most + 1):Nat):Int):=by right
    simp only [z2,VV];refine ⟨fun j hj=>?_,Dr.drop rfl (y3 (by right))⟩
    rcases List.mem_cons.mp hj with rfl | hj
    ·exact ⟨(kn:Int),rfl,a1b (by right)⟩
    ·rw [List.mem_singleton.mp hj];exact ⟨(most:Int),rfl,a1b (by right)⟩
 ·have y1:=y1 kk;rw [<- List.length_map (f:=rD)] at kk
  by_cases z:0 <= k
  ·have z1:¬ (k < ((rs.map rD).length:Int)):=fun q=>kk ⟨z,q⟩;simp only [p6 ha,z,z1,VV];exact ⟨[k],rfl,rfl,fun i hi=>by rw [List.mem_singleton.mp hi];exact a1p hk,Dr.same rfl y1⟩
  ·simp only [p6 ha,z,VV];exact ⟨[k],rfl,rfl,fun i hi=>by rw [List.mem_singleton.mp hi];exact a1p hk,Dr.same rfl y1⟩
theorem a7G{f:Addr}{fd:FuncData}(F:Fun K "unrolled" "unrolled" V3 f fd)(T:Txt P w K mg)(R_NoPaper:a3A P w K mg base 1 "NoPaper" ["self","row"] ["row"])(R_TooLong:a1H K mg "TooLong")(C_q26:Cal P w K mg base 6 "claims" ["chart","start","rows"] (spD K 3 a4m))(C_q37:Cal P w K mg base 2 "parts_of" ["told","row"] (spD K 2 a4p))(C_q27:Cal P w K mg base 1 "counted" ["parts","most"] (spD K 2 a4A))(C_q36:Cal P w K mg base 1 "moves_of" ["parts","k"] (spD K 2 a4G))(C_q32:Cal P w K mg base 1 "first_fact" ["rows","k"] (spD K 2 a4g)):u7 P w K mg base (CXE P w) 7 f fd ["chart","start","rows","k","most"] (spX K 5 K1) :=
 b4x (k:=6) (b:=a2q) F sc_q41 (fun cdv A outer s H E hr=>by
  refine b9 ?_ ?_
  ·refine p7 ?_ (d0 (a4P R_NoPaper (hr.mono (by decide)) rfl (a7 (sv 3) b8))) g6;exact A9 (B3 K5 F8 a9 (sv 3) (f9 n8 rfl T.b_len PySem.boot_len (a7 (sv 2) b8)))
  refine b9 ?_ ?_
  ·exact g7 (i:=5) sc_q41.nd rfl (Or.inl rfl) (a4q (sv 2) a1t (W1 (g8 m7 (sv 3) a9)))
  refine b9 ?_ ?_
  ·refine g7 (i:=6) sc_q41.nd rfl (Or.inr rfl) ?_;exact f7 C_q26 (hr.mono (by decide)) rfl (a7 (sv 0) (a7 (g8 C8 (g8 a0w a9 (c7 c6 (c7 c6 (sv 0) a9) a9)) a9) (a7 (sv 5) b8)))
  refine b9 ?_ ?_
  ·refine p7 ?_ (d0 (a4P R_NoPaper (hr.mono (by decide)) rfl (a7 (sv 3) b8))) g6;exact e7 (E9 hr.units) (c7 c6 (c7 c6 (sv 6) (sv 3)) a9) f8
  refine b9 ?_ ?_
  ·exact a1Z (i:=7) (hN:=sc_q41.nd) (hix:=rfl) (hx:=(Or.inl rfl)) rfl (N':= ["row","told"]) (js:=[none,some 6]) ⟨rfl,by decide +kernel,rfl,rfl,rfl⟩ (B9 (sv 5)) (fun s0 H0 fp=>⟨(j9 (i:=0) (show (["row","told"]:List Str).Nodup by decide +kernel) rfl (Or.inl rfl)),L9,(f7 C_q37 (hr.mono (by decide)) rfl (a7 (sv 1) (a7 (sv 0) b8)))⟩)
  refine b9 ?_ ?_
  ·refine p7 ?_ ?_ g6
   ·exact e7 N9 (f7 C_q27 (hr.mono (by decide)) rfl (a7 (sv 7) (a7 (sv 4) b8))) (sv 4)
   refine d0 ?_;exact a8L (js:=[3,4]) R_TooLong hr rfl (a1C a0j (a3P (pv 3) (a1C a0j (a3P (pv 4) (a1C a0j a8d))))) (fun _ _ z=>⟨z 3 (by decide),⟨z 4 (by decide),trivial⟩⟩)
  refine d0 ?_;refine g9 ?_;refine i8 (n:=2) ?_;refine a7 (f7 C_q32 (hr.mono (by decide)) rfl (a7 (sv 5) (a7 (sv 3) b8))) ?_;exact a7 (f7 C_q36 (hr.mono (by decide)) rfl (a7 (sv 7) (a7 (sv 3) b8))) b8) b1b
def b4j:DS:=(d8 (o9 (k7 (dOp Q4 (b7 1) (dCB A0 (a8 (b7 0) c8)))) (l9 (dOp pIx (b7 0) (b7 1))) k6)
  (d8 (j8 (dOp u0 (dOp K6 (dC (.int 6007)) (b7 1)) (dC (.int 29))) (d7 2))
  (d8 (o9 (k7 (dOp pGt (dCB A0 (a8 (b7 0) c8)) (dC (.int 0)))) (j8 (dOp u0 (b7 2) (dOp K6 (dC (.int 40961)) (dOp pIx (b7 0) (dOp a0f (dOp K6 (dC (.int 7)) (b7 1)) (dCB A0 (a8 (b7 0) c8)))))) (d7 2)) k6)
  (l9 (dOp a0f (dOp K6 (b7 2) (b7 2)) (dC (.int 1000081)))))))
def stO(n s:Int)(b:Bool):O:=.lst [.int n,.int s,.bl b]
theorem e10:(10:Int) ^ (18:Int).toNat=1000000000000000000:=by decide
def b0I:DSp:=fun ds h Q=>∃ (ns:List Int) (k:Nat),ds=[.scr (ns.map .int),nD k]/\ns.length <= 63/\(∀ x ∈ ns,Builtin.Int.intBits x <= 1048576)/\k <= 1000/\∀ r:Int,Builtin.Int.intBits r <= 1048576->Q (.int r) h
theorem a3S{r:Int}(h0:-(2 ^ 64) < r)(h1:r < 2 ^ 64):Builtin.Int.intBits r <= 1048576:=Nat.le_trans (intBits_le_64 h0 h1) (by decide)
theorem b3M:∀ ds h Q,b0I ds h Q->k8 3 b4j ds h Q:=by
 rintro ds h Q ⟨ns,k,rfl,hl,hb,hk,q⟩
 delta k8 q8 b4j;simp only [VS];left
 by_cases z:k < ns.length
 ·have e1:atI (ns.map D.int) (k:Int)=some (.int ns[k]):=by rw [atN,List.getElem?_map,List.getElem?_eq_getElem z];rfl
  have e2:((k:Int) < (ns.length:Int)):=by right
  simp only [List.length_map,e1,e2,VV];exact q _ (hb _ (List.getElem_mem z))
 ·have fin:∀ r:Int,0 <= r % 1000081/\r % 1000081 < 1000081:=fun r=>by right
  have e2:¬ ((k:Int) < (ns.length:Int)):=by right
  simp only [List.length_map,e2,VV];subst hN;left;simp only [VV];refine ⟨a2l (by right),?_⟩;subst hN;left
  have rest:∀ x:Int,Builtin.Int.intBits x <= 2000000->N [some (.scr (ns.map D.int)),some (nD k),some (.int x)] h:=fun x b3=>by
   subst hN;simp only [VV];refine ⟨.of_le b3 b3 (by right),by right,?_⟩
   have:=fin (x * x)
   exact q _ (a3S (by right) (by right))
  by_cases z0:0 < ns.length
  ·have hi:(7 * (k:Int) % (ns.length:Int)).toNat < ns.length:=by
    have:=Int.emod_lt_of_pos (7 * (k:Int)) (show (0:Int) < ns.length by right)
    have:=Int.emod_nonneg (7 * (k:Int)) (show (ns.length:Int) ≠ 0 by right)
    omega
   have e1:atI (ns.map D.int) (7 * (k:Int) % (ns.length:Int))=some (.int ns[(7 * (k:Int) % (ns.length:Int)).toNat]):=by
    rw [T6 (Int.emod_nonneg _ (by right)),List.getElem?_map,List.getElem?_eq_getElem hi];rfl
   have e3:((0:Int) < (ns.length:Int)):=by right
   simp only [List.length_map,e1,e3,VV];have hx:=hb _ (List.getElem_mem hi);generalize ns[(7 * (k:Int) % (ns.length:Int)).toNat]=x at hx;have b1:Builtin.Int.intBits (40961 * x) <= 64 + 1048576:=intBits_mul_le (intBits_le_64 (by decide) (by decide)) hx;have b2:Builtin.Int.intBits (6007 * (k:Int) + 29 + 40961 * x) <= max 64 (64 + 1048576) + 1:=intBits_add_le (intBits_le_64 (by right) (by right)) b1;exact ⟨a2l (by right),trivial,a2l (by right),rest _ (by right)⟩
  ·have e3:¬ ((0:Int) < (ns.length:Int)):=by right
   simp only [List.length_map,e3,VV];exact rest _ (Nat.le_trans (intBits_le_64 (by right) (by right)) (by decide))
theorem b8q{f:Addr}{fd:FuncData}(F:Fun K "_law_cell" "_law_cell" b5m f fd)(T:Txt P w K mg):u7 P w K mg base CX0 1 f fd ["_law_script","_law_k"] (spD K 2 b0I) :=
 z8 (k:=0) (b:=b4j) F sc_q2 (fun cdv A outer s H E hr=>by
  refine b9 ?_ ?_
  ·refine p7 ?_ (d0 (g9 (c7 c6 (sv 0) (sv 1)))) g6;exact e7 F8 (sv 1) (f9 n8 rfl T.b_len PySem.boot_len (a7 (sv 0) b8))
  refine b9 ?_ ?_
  ·exact g7 (i:=2) sc_q2.nd rfl (Or.inl rfl) (g8 m7 (g8 z6 a9 (sv 1)) a9)
  refine b9 ?_ (d0 (g9 (g8 M0 (g8 z6 (sv 2) (sv 2)) a9)));refine p7 ?_ ?_ g6
  ·exact e7 N9 (f9 n8 rfl T.b_len PySem.boot_len (a7 (sv 0) b8)) a9
  refine d0 ?_;refine g7 (i:=2) sc_q2.nd rfl (Or.inl rfl) ?_;exact g8 m7 (sv 2) (g8 z6 a9 (c7 c6 (sv 0) (g8 M0 (g8 z6 a9 (sv 1)) (f9 n8 rfl T.b_len PySem.boot_len (a7 (sv 0) b8)))))) b3M
def a7Z:DS:=(d8 (j8 (dOp pIx (b7 0) (dC (.int 0))) (d7 2))
  (d8 (o9 (k7 (dOp pGt (b7 2) (dC (.int 0)))) (d8 (j8 (dOp b8s (b7 2) (b7 1)) (a6i (b7 0) (dC (.int 0))))
  (l9 (dOp a0f (b7 2) (b7 1)))) k6)
  (d8 (j8 (dOp a0f (dOp u0 (dOp K6 (dOp pIx (b7 0) (dC (.int 1))) (dC (.int 69621))) (dC (.int 40503))) (dC (.int 2147483647))) (d7 3))
  (d8 (j8 (dOp a0f (dOp u0 (dOp K6 (b7 3) (dC (.int 48271))) (dC (.int 7919))) (dC (.int 2147483629))) (a6i (b7 0) (dC (.int 1))))
  (l9 (dOp a0f (dOp u0 (dOp K6 (b7 3) (dC (.int 2147483563))) (dOp pIx (b7 0) (dC (.int 1)))) (b7 1)))))))
def u9:DSp:=fun ds h Q=>∃ (i:Nat) (n s m:Int) (b:Bool),ds=[.ref i,.int m]/\h[i]?=some (stO n s b)/\0 <= n/\(0 < m/\m <= 1000000000000000000)/\∀ (n' s':Int) (r:Nat),0 <= n'->(r:Int) < m->Q (nD r) (h.set i (stO n' s' b))
theorem b1k:∀ ds h Q,u9 ds h Q->k8 4 a7Z ds h Q:=by
 rintro ds h Q ⟨i,n,s,m,b,rfl,hi,n0,⟨hm,hm18⟩,q⟩
 have hil:i < h.length:=(List.getElem?_eq_some_iff.mp hi).1;have hi:h[i]?=some (.lst [.int n,.int s,.bl b]):=hi
 have fin:∀ (x n' s':Int),0 <= n'->Q (.int (x % m)) (h.set i (stO n' s' b)):=fun x n' s' h'=>by
  have h1:=Int.emod_nonneg x (show m ≠ 0 by right);have h2:=Int.emod_lt_of_pos x hm
  have:=q n' s' (x % m).toNat h' (by right)
  rw [show nD (x % m).toNat=D.int (x % m) from congrArg D.int (by right)] at this;exact this
 delta k8 q8 a7Z;simp only [VS];left;simp only [r9 (v8 hi),VV];subst hN;left
 by_cases z:0 < n
 ·simp only [z,VV];simp only [hi,↓k8,↓d8,↓q8,VV];refine ⟨⟨hm,by right⟩,hm,?_⟩;exact fin n (n / m) s (Int.ediv_nonneg n0 (by right))
 ·simp only [z,VV];subst hN;left;simp only [r9 (v8 hi),VV];refine ⟨a0L (by decide),by decide,?_⟩;generalize ho:(s * 69621 + 40503) % 2147483647=o;have ob:0 <= o/\o < 2147483647:=by right
  subst hN;left;have i1:ixN 3 1=some 1:=rfl;simp only [hi,i1,VV];refine ⟨a2l (by right),by decide,?_⟩;have e2:(h.set i (.lst [.int n,.int ((o * 48271 + 7919) % 2147483629),.bl b]))[i]?=some (.lst [.int n,.int ((o * 48271 + 7919) % 2147483629),.bl b]):=List.getElem?_set_self hil;subst hN;simp only [r9 (v8 e2),VV];refine ⟨a2l (by right),hm,?_⟩;exact fin _ n _ n0
theorem b5k{f:Addr}{fd:FuncData}(F:Fun K "_law_next" "_law_next" a9a f fd)(T:Txt P w K mg):u7 P w K mg base CX0 1 f fd ["_law_state_here","_law_many_here"] (spD K 2 u9) :=
 z8 (k:=0) (b:=a7Z) F sc_q12 (fun cdv A outer s H E hr=>by
  refine b9 ?_ ?_
  ·exact g7 (i:=2) sc_q12.nd rfl (Or.inl rfl) (c7 c6 (sv 0) a9)
  refine b9 ?_ ?_
  ·refine p7 (e7 N9 (sv 2) a9) ?_ g6;exact b9 (Y0 (g8 b6l (sv 2) (sv 1)) (a4V (sv 0) a9))     (d0 (g9 (g8 M0 (sv 2) (sv 1))))
  refine b9 ?_ ?_
  ·refine g7 (i:=3) sc_q12.nd rfl (Or.inl rfl) ?_;exact g8 M0 (g8 m7 (g8 z6 (c7 c6 (sv 0) a9) a9) a9) a9
  refine b9 ?_ ?_
  ·exact Y0 (g8 M0 (g8 m7 (g8 z6 (sv 3) a9) a9) a9) (a4V (sv 0) a9)
  refine d0 ?_;refine g9 ?_;exact g8 M0 (g8 m7 (g8 z6 (sv 3) a9) (c7 c6 (sv 0) a9)) (sv 1)) b1k
def b5J:DS:=(l9 (dV (G4 [none,some 0] (F5 (a8 (dC (.int 6)) c8)) (d7 0) (k7 (dOp (pEq false) (dOp R7 (dOp a2i (b7 1) (b7 0)) (dC (.int 1))) (dC (.int 1)))) (b7 0))))
def v7(m:Nat):List Nat:=(List.range 6).filter fun d=>m.testBit d
def a1V:DSp:=fun ds h Q=>∃ m:Nat,ds=[nD m]/\Q (.lst ((v7 m).map nD)) h
theorem b3B:∀ ds h Q,a1V ds h Q->k8 1 b5J ds h Q:=by
 rintro ds h Q ⟨m,rfl,q⟩
 delta k8 q8 b5J;simp only [VS];simp only [VV];refine ⟨by right,by rw [w4];decide,?_⟩;rw [v9];refine a0U (fun d=>m.testBit d) nD Src.ok_nil none (fun y hy K k=>?_) (fun y hy _ K k=>?_) ?_
 ·simp only [VV];refine ⟨by right,?_⟩;rw [show ((0:Int) + (y:Nat)).toNat=y by right,b2g];exact k
 ·simp only [VV];rw [Int.zero_add];exact k
 ·exact q
theorem b6X{f:Addr}{fd:FuncData}(F:Fun K "_law_facts" "_law_facts" b5P f fd)(T:Txt P w K mg):u7 P w K mg base CX0 1 f fd ["_law_mask"] (spD K 1 a1V) :=
 z8 (k:=0) (b:=b5J) F b8D (fun cdv A outer s H E hr=>by
  refine d0 ?_;refine g9 ?_;refine C9 ?_;exact F4 rfl (N':= ["_law_d","_law_mask"]) (js:=[none,some 0]) ⟨rfl,by decide +kernel,rfl,rfl,rfl⟩ (B0 rfl T.b_range (a7 a9 b8)) (fun s0 H0 fp=>⟨(j9 (i:=0) (show (["_law_d","_law_mask"]:List Str).Nodup by decide +kernel) rfl (Or.inl rfl)),(a0m (e7 (o7 hr.units) (g8 J5 (g8 S4 (sv 1) (sv 0)) a9) a9)),(sv 0)⟩)) b3B
def b6j:DS:=(l9 (b2D (D6 pLe Q4 (dC (.int 0)) (b7 2) (dC (.int 6))) (dOp (pEq false) (dOp R7 (dOp a2i (dOp pIx (b7 0) (b7 1)) (b7 2)) (dC (.int 1))) (dC (.int 1)))))
def Z1:DSp:=fun ds h Q=>∃ (t:List Nat) (n m d:Nat) (e:Int),ds=[tD t,nD d,.int e]/\tOk t n m/\m <= 6/\d < n/\Q (.bl (br t d e)) h
theorem b6i:∀ ds h Q,Z1 ds h Q->k8 3 b6j ds h Q:=by
 rintro ds h Q ⟨t,n,m,d,e,rfl,ht,hm,hd,q⟩
 have hx:=b2G (ht.get hd).2 hm;delta k8 q8 b6j;simp only [VS]
 by_cases h0:0 <= e
 ·by_cases h1:e < 6
  ·simp only [h0,h1,a0p h ht hd,VV];refine ⟨trivial,?_⟩
   have:=b2g (t.getD d 0) e.toNat
   rw [this];unfold br at q;rw [decide_eq_true h0] at q;exact q
  ·simp only [h0,h1,VV]
   have e1:br t d e=false:=by
    unfold br;rw [Nat.testBit_lt_two_pow (Nat.lt_of_lt_of_le hx (Nat.pow_le_pow_right (n:=2) (i:=6) (by decide) (by right))),Bool.and_false]
   rw [e1] at q;exact q
 ·simp only [h0,VV];have e1:br t d e=false:=by unfold br;rw [decide_eq_false h0];rfl
  rw [e1] at q;exact q
theorem b8n{f:Addr}{fd:FuncData}(F:Fun K "_law_brings" "_law_brings" b4J f fd)(T:Txt P w K mg):u7 P w K mg base CX0 1 f fd ["_law_table_here","_law_one","_law_other"] (spD K 3 Z1) :=
 z8 (k:=0) (b:=b6j) F b7t (fun cdv A outer s H E hr=>by
  refine d0 ?_;refine g9 ?_;exact b4i (a7j K5 F8 a9 (sv 2) a9) (a6R (E5 (o7 hr.units) (g8 J5 (g8 S4 (c7 c6 (sv 0) (sv 1)) (sv 2)) a9) a9))) b6i
def b5b:DS:=(d8 (o9 (O7 (k7 (D6 pLe Q4 (dC (.int 0)) (b7 2) (dCB A0 (a8 (dOp pIx (dOp pIx (b7 0) (b7 1)) (dC (.int 2))) c8)))) (O7 (k7 (dOp (pEq false) (dOp pIx (dOp pIx (dOp pIx (dOp pIx (b7 0) (b7 1)) (dC (.int 2))) (b7 2)) (dC (.int 0))) (b7 3))) (k7 (dOp (pEq false) (dOp pIx (dOp pIx (dOp pIx (dOp pIx (b7 0) (b7 1)) (dC (.int 2))) (b7 2)) (dC (.int 1))) (b7 4))))) (l9 (dOp pIx (dOp pIx (dOp pIx (b7 0) (b7 1)) (dC (.int 2))) (b7 2))) k6)
  (l9 (dC .non)))
def D7(C:i9)(f:Nat)(n:Int)(b:Bool)(p:Nat):Option Edge:=(B4 C f n).bind fun E=>if E.isStep=b/\E.p=p then some E else none
def sw:Bool->Str | true=> "step" | false=> "call"
def a2M:DSp:=fun ds h Q=>∃ (c:D) (C:i9) (f p:Nat) (F:Fn) (n:Int) (b:Bool),ds=[c,nD f,.int n,.str (sw b),nD p]/\ChD h c C/\C[f]?=some F/\Q (oD eD (D7 C f n b p)) h
theorem b5A:∀ ds h Q,a2M ds h Q->k8 5 b5b ds h Q:=by
 rintro ds h Q ⟨c,C,f,p,F,n,b,rfl,hc,hf,q⟩
 obtain ⟨x,e1,e2⟩:=hc.fn hf;delta k8 q8 b5b;simp only [VS];left
 by_cases h0:0 <= n
 ·by_cases h1:n < F.edges.length
  ·have hl:n.toNat < F.edges.length:=by right
   obtain ⟨E,hE⟩:∃ E,F.edges[n.toNat]?=some E:=⟨_,List.getElem?_eq_getElem hl⟩
   have eE:B4 C f n=some E:=by unfold B4;rw [if_pos h0,hf];exact hE
   have ax:atI (F.edges.map eD) n=some (eD E):=by rw [T6 h0,List.getElem?_map,hE];rfl
   have tk:D7 C f n b p=if E.isStep=b/\E.p=p then some E else none:=by unfold D7;rw [eE];rfl
   rw [tk] at q;have hpp:((E.p:Int) == (p:Int))=decide (E.p=p):=by first | exact Q3 _ _ | exact O3 _ _ | exact Q7 _ _
   have wk:PyData.strOk E.word=true:=by unfold Edge.word;cases E.k with | step t=>exact Z3 | call g i bk o=>exact a4y
   have sk:PyData.strOk (sw b)=true:=by cases b with | true=>exact Z3 | false=>exact a4y
   have we:(E.word == sw b)=decide (E.isStep=b):=by
    obtain ⟨ep,eq,ec,ek⟩:=E
    cases ek <;> cases b
    ·exact a1K
    ·exact a1q
    ·exact a1s
    ·exact a1x
   simp only [e1,p6 e2,List.length_map,r9 e2,h0,h1,ax,b9m,b5g,hpp,wk,sk,we,VV]
   by_cases hs:E.isStep=b
   ·by_cases hp:E.p=p
    ·rw [if_pos ⟨hs,hp⟩] at q;simp only [hs,hp,VV];exact q
    ·rw [if_neg (fun z=>hp z.2)] at q;simp only [hs,hp,VV];subst hN;exact q
   ·rw [if_neg (fun z=>hs z.1)] at q;simp only [hs,VV];subst hN;exact q
  ·have eE:D7 C f n b p=none:=by
    unfold D7 B4;rw [if_pos h0,hf];show (F.edges[n.toNat]?).bind _=none;rw [List.getElem?_eq_none (by right)];rfl
   rw [eE] at q;simp only [e1,p6 e2,List.length_map,h0,h1,VV];subst hN;exact q
 ·have eE:D7 C f n b p=none:=by unfold D7 B4;rw [if_neg h0];rfl
  rw [eE] at q;simp only [h0,VV];have e3:ixD h c (nD f)=some (.tup [nD F.places,nD F.facts,x]):=e1;subst hN;exact q
theorem a0t(C:i9)(f p d:Nat)(w:Mv)(n e:Int):takes C f p d w n e=(D7 C f n (w == .step) p).bind fun E=>if br (E.tab w) d e=true then some E else none:=by
 unfold takes D7
 cases B4 C f n with
 |none=>rfl
 |some E =>
  show (if (E.isStep == (w == .step))=true/\E.p=p/\br (E.tab w) d e=true then some E else none)=(if E.isStep=(w == .step)/\E.p=p then some E else none).bind _
  by_cases h1:E.isStep=(w == .step)
  ·by_cases h2:E.p=p
   ·rw [if_pos (show E.isStep=(w == .step)/\E.p=p from ⟨h1,h2⟩)];show _=if br (E.tab w) d e=true then some E else none
    by_cases h3:br (E.tab w) d e=true
    ·rw [if_pos ⟨by rw [h1];exact beq_self_eq_true _,h2,h3⟩,if_pos h3]
    ·rw [if_neg (fun z=>h3 z.2.2),if_neg h3]
   ·rw [if_neg (fun z=>h2 z.2.1),if_neg (fun z=>h2 z.2)];rfl
  ·rw [if_neg (fun z=>h1 (by simpa using z.1)),if_neg (fun z=>h1 z.1)];rfl
theorem T2{C:i9}(wf:WF C){f p:Nat}{n:Int}{b:Bool}{E:Edge}(h:D7 C f n b p=some E):∃ F,C[f]?=some F/\eOk C F E/\E.isStep=b/\E.p=p:=by
 unfold D7 at h
 cases q:B4 C f n with
 |none=>rw [q] at h;cases h
 |some E' =>
  rw [q] at h;have h:(if E'.isStep=b/\E'.p=p then some E' else none)=some E:=h
  split at h
  ·rename_i z;cases h;obtain ⟨F,_,hF,hE⟩:=K3 q;exact ⟨F,hF,(wf.fn f F hF).2.2.2.2.2 E (List.mem_of_getElem? hE),z⟩
  ·cases h
theorem b6R{f:Addr}{fd:FuncData}(F:Fun K "_law_edge_of" "_law_edge_of" b4u f fd)(T:Txt P w K mg):u7 P w K mg base CX0 1 f fd ["_law_chart_here","_law_f","_law_n","_law_sort","_law_p"] (spD K 5 a2M) :=
 z8 (k:=0) (b:=b5b) F b7E (fun cdv A outer s H E hr=>by
  refine b9 ?_ (d0 (g9 l7));refine p7 ?_ ?_ g6
  ·exact F1 (E3 (B3 K5 F8 a9 (sv 2) (f9 n8 rfl T.b_len PySem.boot_len (a7 (c7 c6 (c7 c6 (sv 0) (sv 1)) a9) b8))) (E3 (e7 (o7 hr.units) (c7 c6 (c7 c6 (c7 c6 (c7 c6 (sv 0) (sv 1)) a9) (sv 2)) a9) (sv 3)) (E1 (e7 (o7 hr.units) (c7 c6 (c7 c6 (c7 c6 (c7 c6 (sv 0) (sv 1)) a9) (sv 2)) a9) (sv 4)))))
  refine d0 ?_;refine g9 ?_;exact c7 c6 (c7 c6 (c7 c6 (sv 0) (sv 1)) a9) (sv 2)) b5A
def a7Y:DS:=(d8 (j8 (l8 b0I (a8 (b7 0) (a8 (b7 1) c8))) (d7 2))
  (d8 (j8 (dOp pGe (dCB b2q (a8 (b7 2) c8)) (dOp b2j (dC (.int 10)) (dC (.int 18)))) (d7 3))
  (l9 (dTk (a8 (dOp K6 (dCB b2q (a8 (b7 2) c8)) (dCB W5 (a8 (b7 3) c8))) (a8 (dOp a0f (dOp u0 (dOp u0 (dOp K6 (b7 2) (dC (.int 48271))) (dOp K6 (dC (.int 7919)) (b7 1))) (dC (.int 11))) (dC (.int 2147483629))) (a8 (b7 3) c8)))))))
def S2:DSp:=fun ds h Q=>∃ (ns:List Int) (k:Nat),ds=[.scr (ns.map .int),nD k]/\ns.length <= 63/\(∀ x ∈ ns,Builtin.Int.intBits x <= 1048576)/\k <= 1000/\∀ (n s:Int) (b:Bool),0 <= n->Q (.ref h.length) (h ++ [stO n s b])
theorem b2x:∀ ds h Q,S2 ds h Q->k8 4 a7Y ds h Q:=by
 rintro ds h Q ⟨ns,k,rfl,hl,hb,hk,q⟩
 delta k8 q8 a7Y;simp only [VS];left;simp only [VV];refine ⟨ns,k,rfl,hl,hb,hk,fun c hc=>?_⟩;subst hN;left;simp only [e10,VV];refine ⟨⟨by decide,by decide,by decide⟩,?_⟩;generalize decide ((1000000000000000000:Int) <= if c < 0 then -c else c)=b;subst hN;simp only [VV];have hb01:(if b=true then (1:Int) else 0)=0\/(if b=true then (1:Int) else 0)=1:=by cases b <;> simp
 have ha:0 <= (if c < 0 then -c else c):=by split <;> omega
 generalize (if b=true then (1:Int) else 0)=bi at hb01;generalize (if c < 0 then -c else c)=ca at ha;have hn:0 <= ca * bi:=by rcases hb01 with e | e <;> rw [e] <;> omega
 refine ⟨a0L (by right),a0L (by decide),a2l (by decide),by decide,?_⟩;exact q _ _ b hn
theorem b4D{f:Addr}{fd:FuncData}(F:Fun K "_law_state" "_law_state" a6P f fd)(T:Txt P w K mg)(C_q2:Cal P w K mg base 1 "_law_cell" ["_law_script","_law_k"] (spD K 2 b0I)):u7 P w K mg base CX0 2 f fd ["_law_script","_law_k"] (spD K 2 S2) :=
 z8 (k:=1) (b:=a7Y) F sc_q18 (fun cdv A outer s H E hr=>by
  refine b9 ?_ ?_
  ·exact g7 (i:=2) sc_q18.nd rfl (Or.inl rfl) (f7 C_q2 (hr.mono (by decide)) rfl (a7 (sv 0) (a7 (sv 1) b8)))
  refine b9 ?_ ?_
  ·refine g7 (i:=3) sc_q18.nd rfl (Or.inl rfl) ?_;exact E5 b8G (f9 a8H rfl T.b_abs PyProof.Rows.boot_abs (a7 (sv 2) b8)) (g8 a3n a9 a9)
  refine d0 ?_;refine g9 ?_;exact S9 (t7 (a7 (g8 z6 (f9 a8H rfl T.b_abs PyProof.Rows.boot_abs (a7 (sv 2) b8)) (z7 J8 rfl T.b_int PyProof.Rows.boot_int (a7 (sv 3) b8))) (a7 (g8 M0 (g8 m7 (g8 m7 (g8 z6 (sv 2) a9) (g8 z6 a9 (sv 1))) a9) a9) (a7 (sv 3) b8))))) b2x
def a6V:DS:=(d8 (j8 (dOp pIx (b7 0) (dC (.int 2))) (d7 3))
  (d8 (j8 (dTk c8) (d7 4))
  (d8 (O5 (F5 (a8 (b7 1) c8)) (d7 5) (d8 (j8 (l8 u9 (a8 (b7 0) (a8 (dOp a5o (dC (.int 1)) (b7 2)) c8))) (d7 6))
  (d8 (o9 (M3 (dTr (b7 3))) (d8 (j8 (dOp b4B (dOp R7 (b7 6) (l8 u9 (a8 (b7 0) (a8 (dOp a5o (dC (.int 1)) (b7 2)) c8)))) (dOp a5o (dC (.int 1)) (dOp a0f (b7 5) (b7 2)))) (d7 6))
  (j8 (dOp K6 (b7 6) (dCB W5 (a8 (b7u (dOp (pEq false) (b7 5) (dC (.int 0))) (dOp pGt (l8 u9 (a8 (b7 0) (a8 (dC (.int 5)) c8))) (dC (.int 0)))) c8))) (d7 6))) k6)
  (F2 (B6 (b7 4) (a8 (b7 6) c8))))))
  (l9 (dCB a1r (a8 (b7 4) c8))))))
def a0u:DSp:=fun ds h Q=>∃ (i:Nat) (x s:Int) (b:Bool) (n m:Nat),ds=[.ref i,nD n,nD m]/\h[i]?=some (stO x s b)/\0 <= x/\n <= 6/\1 <= m/\m <= 6/\∀ (x' s':Int) (t:List Nat),0 <= x'->tOk t n m->Q (tD t) (h.set i (stO x' s' b))
theorem b1V:∀ ds h Q,a0u ds h Q->k8 7 a6V ds h (Dr h Q):=by
 rintro ds h Q ⟨i,x,s,b,n,m,rfl,hi,x0,hn,hm1,hm6,q⟩
 have hi':h[i]?=some (.lst [.int x,.int s,.bl b]):=hi;delta k8 q8 a6V;simp only [VS];left;simp only [r9 (v8 hi'),VV];subst hN;left;simp only [VV];subst hN;left;simp only [VV];refine ⟨by right,?_⟩;rw [v9,Int.toNat_natCast];have h64:2 ^ m <= 64:=Nat.pow_le_pow_right (n:=2) (by decide) hm6;have hp:(1:Int) * 2 ^ (m:Int).toNat=((2 ^ m:Nat):Int):=b0w m;have hpos:0 < 2 ^ m:=Nat.two_pow_pos m;have eh:h ++ [O.lst []]=(h.set i (stO x s b)) ++ [.lst []]:=by rw [a3Z hi]
 refine w5 (fun p δ h'=>∃ (t:List Nat) (x' s':Int) (x1 x2:Option D),δ=[some (.ref i),some (nD n),some (nD m),some (.bl b),some (.ref h.length),x1,x2]/\h'=(h.set i (stO x' s' b)) ++ [.lst (t.map nD)]/\0 <= x'/\t.length=p.length/\∀ x ∈ t,x < 2 ^ m) ⟨[],x,s,none,none,rfl,eh,x0,rfl,fun x hx=>nomatch hx⟩ (fun _ _ _ _=>Src.ok_nil) ?_ ?_
 ·rintro p d r δ h' N1 e ⟨t,x',s',x1,x2,rfl,rfl,x0',hl,ht⟩ hN1
  obtain ⟨hdp,hd⟩:=G1 e;simp only [VV];left;simp only [VV];refine ⟨⟨by right,by right,by decide⟩,i,x',s',_,b,rfl,a1o hi,x0',⟨by rw [hp];omega,by rw [hp];omega⟩,fun xa s1 r1 xa0 hr1=>?_⟩;rw [a1U hi];rw [hp] at hr1
  have fin:∀ (s3 s4:Int) (mk:Nat),0 <= s3->mk < 2 ^ m->N1 [some (.ref i),some (nD n),some (nD m),some (.bl b),some (.ref h.length),some (.int (0 + (d:Int))),some (nD mk)] ((h.set i (stO s3 s4 b)) ++ [.lst (t.map nD ++ [nD mk])]):=fun s3 s4 mk h3 hb=>by
   refine hN1 _ _ ⟨t ++ [mk],s3,s4,_,_,rfl,by simp,h3,by simp [hl],fun x hx=>?_⟩
   rcases List.mem_append.mp hx with z | z
   ·exact ht x z
   ·rw [List.mem_singleton.mp z];exact hb
  have hlen:t.length < 16777216:=by right
  subst hN;left
  have last:∀ (s3 s4:Int) (mk:Nat),0 <= s3->mk < 2 ^ m->N [some (.ref i),some (nD n),some (nD m),some (.bl b),some (.ref h.length),some (.int (0 + (d:Int))),some (nD mk)] ((h.set i (stO s3 s4 b)) ++ [.lst (t.map nD)]):=fun s3 s4 mk h3 hb=>by
   subst hN;simp only [T4,a1w,List.length_map,VV];exact ⟨hlen,fin s3 s4 mk h3 hb⟩
  cases b with
  |true =>
   simp only [VV];exact last _ _ _ xa0 (by right)
  |false =>
   simp only [VV]
   (try dsimp only);refine D9 fun N2 hN2=>?_;simp only [VV];refine ⟨⟨by right,by right,by decide⟩,i,xa,s1,_,false,rfl,a1o hi,xa0,⟨by rw [hp];omega,by rw [hp];omega⟩,fun xb s2 r2 xb0 hr2=>?_⟩;rw [a1U hi];rw [hp] at hr2;have em:(0 + (d:Int)) % (m:Int)=((d % m:Nat):Int):=by rw [Int.zero_add];exact (Int.natCast_emod d m).symm
   have hdm:d % m < m:=Nat.mod_lt _ (by right);simp only [VV];rw [em];refine ⟨by right,⟨by right,by right,by decide⟩,?_⟩;rw [b0w,a2z,a4h];have hk:(r1 &&& r2) ||| 2 ^ (d % m) < 2 ^ m:=Nat.or_lt_two_pow (Nat.and_lt_two_pow _ (by right)) (Nat.pow_lt_pow_right (by decide) hdm)
   generalize (r1 &&& r2) ||| 2 ^ (d % m)=mk at hk
   have e1:(mk:Int) * 1=((mk:Nat):Int):=by right
   have e0:(mk:Int) * 0=((0:Nat):Int):=by right
   subst hN2;simp only [VV]
   by_cases z:(0 + (d:Int) == 0)=true
   ·simp only [z,e1,VV];exact ⟨a0L (by decide),last _ _ _ xb0 hk⟩
   ·simp only [z,VV];refine ⟨i,xb,s2,5,false,rfl,a1o hi,xb0,⟨by right,by right⟩,fun xc s3 r3 xc0 hr3=>?_⟩;rw [a1U hi]
    by_cases z3:(0:Int) < (r3:Int)
    ·simp only [z3,e1,VV];exact ⟨a0L (by decide),last _ _ _ xc0 hk⟩
    ·simp only [z3,e0,VV];exact ⟨a0L (by decide),last _ _ _ xc0 hpos⟩
 ·rintro δ h' ⟨t,x',s',x1,x2,rfl,rfl,x0',hl,ht⟩
  subst hN;have ng:w6 (List.set h i (stO x' s' b) ++ [O.lst (t.map nD)]) (.ref h.length)=some (t.map nD):=v8 T4;simp only [a6B ng,VV];exact Dr.state hi rfl (a0b t) (q x' s' t x0' ⟨by rw [hl];simp,ht⟩)
theorem b5p{f:Addr}{fd:FuncData}(F:Fun K "_law_table" "_law_table" a8w f fd)(T:Txt P w K mg)(C_q12:Cal P w K mg base 1 "_law_next" ["_law_state_here","_law_many_here"] (spD K 2 u9)):u7 P w K mg base CX0 2 f fd ["_law_state_here","_law_many_here","_law_facts_here"] (spD K 3 a0u) :=
 L7 (k:=1) (b:=a6V) F sc_q19 (fun cdv A outer s H E hr=>by
  refine b9 ?_ ?_
  ·exact g7 (i:=3) sc_q19.nd rfl (Or.inl rfl) (c7 c6 (sv 0) a9)
  refine b9 ?_ ?_
  ·exact g7 (i:=4) sc_q19.nd rfl (Or.inl rfl) (S9 (t7 b8))
  refine b9 ?_ ?_
  ·refine J0 PassesOwn.never rfl (B0 rfl T.b_range (a7 (sv 1) b8)) (j9 (i:=5) sc_q19.nd rfl (Or.inl rfl)) ?_;refine b9 ?_ ?_
   ·refine g7 (i:=6) sc_q19.nd rfl (Or.inl rfl) ?_;exact f7 C_q12 (hr.mono (by decide)) rfl (a7 (sv 0) (a7 (g8 a0w a9 (sv 2)) b8))
   refine b9 ?_ (d0 (B5 (z5 (sv 4) (a7 (sv 6) b8))));refine p7 (A9 (o8 (sv 3))) ?_ g6;refine b9 ?_ ?_
   ·refine g7 (i:=6) sc_q19.nd rfl (Or.inl rfl) ?_;exact g8 a7m (g8 J5 (sv 6) (f7 C_q12 (hr.mono (by decide)) rfl (a7 (sv 0) (a7 (g8 a0w a9 (sv 2)) b8)))) (g8 a0w a9 (g8 M0 (sv 5) (sv 2)))
   refine d0 ?_;refine g7 (i:=6) sc_q19.nd rfl (Or.inl rfl) ?_;exact g8 z6 (sv 6) (z7 J8 rfl T.b_int PyProof.Rows.boot_int (a7 (b8K (E5 (o7 hr.units) (sv 5) a9) (a6R (E5 N9 (f7 C_q12 (hr.mono (by decide)) rfl (a7 (sv 0) (a7 a9 b8))) a9))) b8))
  exact d0 (g9 (z7 a3b rfl T.b_tuple PyProof.Rows.boot_tuple (a7 (sv 4) b8)))) b1V
def b3W:DS:=(d8 (j8 (dOp pIx (b7 0) (dC (.int 2))) (d7 3))
  (d8 (j8 (dOp pIx (b7 1) (b7 2)) (a2c 2 (A8 (d7 4) (A8 (d7 5) U4))))
  (d8 (j8 (l8 u9 (a8 (b7 0) (a8 (b7 4) c8))) (d7 6))
  (d8 (j8 (l8 u9 (a8 (b7 0) (a8 (b7 4) c8))) (d7 7))
  (d8 (o9 (O7 (M3 (dTr (b7 3))) (k7 (dOp pGt (l8 u9 (a8 (b7 0) (a8 (dC (.int 3)) c8))) (dC (.int 0))))) (j8 (dCB a0D (a8 (dOp u0 (b7 6) (dC (.int 1))) (a8 (dOp M2 (b7 4) (dC (.int 1))) c8))) (d7 7)) k6)
  (d8 (j8 (dOp u0 (dC (.int 1)) (l8 u9 (a8 (b7 0) (a8 (dOp pIx (dV (a8 (dC (.int 9)) (a8 (dOp b2j (dC (.int 10)) (dC (.int 18))) c8))) (dCB W5 (a8 (dOp (pEq false) (l8 u9 (a8 (b7 0) (a8 (dC (.int 3)) c8))) (dC (.int 1))) c8))) c8)))) (d7 8))
  (d8 (o9 (k7 (dOp (pEq false) (l8 u9 (a8 (b7 0) (a8 (dC (.int 2)) c8))) (dC (.int 0)))) (l9 (t9 (a8 (dC (.str "step")) (a8 (b7 6) (a8 (b7 7) (a8 (b7 8) (a8 (l8 a0u (a8 (b7 0) (a8 (b7 5) (a8 (b7 5) c8)))) c8))))))) k6)
  (d8 (j8 (l8 u9 (a8 (b7 0) (a8 (dCB A0 (a8 (b7 1) c8)) c8))) (d7 9))
  (d8 (j8 (dOp pIx (dOp pIx (b7 1) (b7 9)) (dC (.int 1))) (d7 10))
  (d8 (j8 (l8 a0u (a8 (b7 0) (a8 (b7 5) (a8 (b7 10) c8)))) (d7 11))
  (d8 (j8 (l8 a0u (a8 (b7 0) (a8 (b7 10) (a8 (b7 5) c8)))) (d7 12))
  (d8 (j8 (l8 a0u (a8 (b7 0) (a8 (b7 5) (a8 (b7 5) c8)))) (d7 13))
  (d8 (o9 (M3 (dTr (b7 3))) (j8 (dOp u0 (t9 (a8 (dC (.int 0)) c8)) (dCB a1r (a8 (dV (G4 [none] (G2 (dSl (b7 13) (a0d (dC (.int 1))) U5)) (d7 0) M7 (dOp R7 (b7 0) (dC (.int 62))))) c8))) (d7 13)) k6)
  (l9 (t9 (a8 (dC (.str "call")) (a8 (b7 6) (a8 (b7 7) (a8 (b7 8) (a8 (b7 9) (a8 (b7 11) (a8 (b7 12) (a8 (b7 13) c8)))))))))))))))))))))))
abbrev Hd:=List (Nat×Nat)
def pD(x:Nat×Nat):D:=.tup [nD x.1,nD x.2]
def hOk(hs:Hd):Prop:=∀ (f:Nat) (x:Nat×Nat),hs[f]?=some x->1 <= x.1/\x.1 <= 10/\1 <= x.2/\x.2 <= 6
def b3I(hs:Hd)(x:Nat×Nat)(e:Edge):Prop:=e.p < x.1/\e.q < x.1/\1 <= e.cost/\e.cost <= 10 ^ 18/\match e.k with
 |.step t=>tOk t x.2 x.2
 |.call g i b o=>∃ y,hs[g]?=some y/\tOk i x.2 y.2/\tOk b y.2 x.2/\tOk o x.2 x.2
theorem a8E{h:Hh}{i:Nat}{hd:D}{hs:Hd}{n s:Int}{b:Bool}{o:O}(hi:h[i]?=some (stO n s b))(hl:w6 h hd=some (hs.map pD)):w6 (h.set i o) hd=some (hs.map pD):=by
 cases hd with
 |ref j =>
  by_cases z:i=j
  ·subst z
   have:w6 h (.ref i)=some [.int n,.int s,.bl b]:=v8 hi
   rw [this] at hl
   cases hs with
   |nil=>cases hl
   |cons a l=>cases hl
  ·show (match (h.set i o)[j]? with | some (.lst xs)=>some xs | _=>none)=_;rw [List.getElem?_set_ne z];exact hl
 |_=>exact hl
def b1C:DSp:=fun ds h Q=>∃ (i:Nat) (y s:Int) (b:Bool) (hd:D) (hs:Hd) (f:Nat) (x:Nat×Nat),ds=[.ref i,hd,nD f]/\h[i]?=some (stO y s b)/\0 <= y/\w6 h hd=some (hs.map pD)/\hs[f]?=some x/\hOk hs/\hs.length <= 6/\∀ (y' s':Int) e,b3I hs x e->Q (eD e) (h.set i (stO y' s' b))
theorem b5X:∀ ds h Q,b1C ds h Q->k8 14 b3W ds h Q:=by
 rintro ds h Q ⟨i,y,s,b,hd,hs,f,x,rfl,hi,y0,hl,hf,ok,h6,q⟩
 obtain ⟨o1,o2,o3,o4⟩:=ok f x hf;have hi':h[i]?=some (.lst [.int y,.int s,.bl b]):=hi;have fl:f < hs.length:=(List.getElem?_eq_some_iff.mp hf).1;have sz:(hs.map pD).length=hs.length:=List.length_map ..;have gs:∀ o:O,(h.set i o)[i]?=some o:=fun o=>List.getElem?_set_self (List.getElem?_eq_some_iff.mp hi).1;delta k8 q8 b3W;simp only [VS];left;simp only [r9 (v8 hi'),VV];subst hN;left;have ix:ixD h hd (nD f)=some (pD x):=by rw [r9 hl,atN,List.getElem?_map,hf];rfl
 simp only [ix,pD,VV];refine ⟨trivial,?_⟩;subst hN;left;simp only [VV];refine ⟨i,y,s,_,b,rfl,hi,y0,⟨by right,by right⟩,fun y1 s1 p y10 hp=>?_⟩;have hp':p < x.1:=by right
 subst hN;left;simp only [VV];refine ⟨i,y1,s1,_,b,rfl,gs _,y10,⟨by right,by right⟩,fun y2 s2 q0 y20 hq0=>?_⟩;rw [set_set];subst hN;left
 have rest:∀ (y3 s3:Int) (q1:Nat),0 <= y3->q1 < x.1->N [some (.ref i),some hd,some (nD f),some (.bl b),some (nD x.1),some (nD x.2),some (nD p),some (nD q1),none,none,none,none,none,none] (h.set i (stO y3 s3 b)):=fun y3 s3 q1 y30 hq1=>by
  subst hN;left;simp only [VV];refine ⟨⟨by decide,by decide,by decide⟩,i,y3,s3,3,b,rfl,gs _,y30,⟨by decide,by decide⟩,fun y4 s4 r4 y40 hr4=>?_⟩;rw [set_set];simp only [e10,VV]
  obtain ⟨mx,e4,m1,m2⟩:∃ mx:Int,atI [D.int 9,D.int 1000000000000000000] (if ((r4:Int) == 1)=true then 1 else 0)=some (.int mx)/\0 < mx/\mx <= 1000000000000000000:=by
   cases ((r4:Int) == 1) with
   |true=>exact ⟨1000000000000000000,rfl,by decide,by decide⟩
   |false=>exact ⟨9,rfl,by decide,by decide⟩
  rw [e4];simp only [VV];refine ⟨i,y4,s4,mx,b,rfl,gs _,y40,⟨m1,m2⟩,fun y5 s5 r5 y50 hr5=>?_⟩;rw [set_set];simp only [VV];rw [show (1:Int) + (r5:Int)=((1 + r5:Nat):Int) by right];have hc1:1 <= 1 + r5:=by right
  have hc2:1 + r5 <= 10 ^ 18:=by right
  generalize 1 + r5=cst at hc1 hc2;subst hN;left;simp only [VV];refine ⟨i,y5,s5,2,b,rfl,gs _,y50,⟨by decide,by decide⟩,fun y6 s6 r6 y60 hr6=>?_⟩;rw [set_set]
  by_cases z:((r6:Int) == 0)=true
  ·simp only [z,VV];refine ⟨i,y6,s6,b,x.2,x.2,rfl,gs _,y60,o4,o3,o4,fun y7 s7 t y70 ht=>?_⟩;rw [set_set];exact q _ _ ⟨p,q1,cst,.step t⟩ ⟨hp',hq1,hc1,hc2,ht⟩
  ·simp only [z,VV];subst hN;left;simp only [p6 (a8E hi hl),sz,VV];refine ⟨i,y6,s6,_,b,rfl,gs _,y60,⟨by right,by right⟩,fun y7 s7 g y70 hg=>?_⟩;rw [set_set];have hgl:g < hs.length:=by right
   obtain ⟨yy,hy⟩:∃ y,hs[g]?=some y:=⟨_,List.getElem?_eq_getElem hgl⟩
   obtain ⟨z1,z2,z3,z4⟩:=ok g yy hy;have ix2:∀ o,ixD (h.set i o) hd (nD g)=some (pD yy):=fun o=>by rw [r9 (a8E hi hl),atN,List.getElem?_map,hy];rfl
   subst hN;left;simp only [ix2,pD,VV];subst hN;left;simp only [VV];refine ⟨i,y7,s7,b,x.2,yy.2,rfl,gs _,y70,o4,z3,z4,fun y8 s8 ti y80 hti=>?_⟩;rw [set_set];subst hN;left;simp only [VV];refine ⟨i,y8,s8,b,yy.2,x.2,rfl,gs _,y80,z4,o3,o4,fun y9 s9 tb y90 htb=>?_⟩;rw [set_set];subst hN;left;simp only [VV];refine ⟨i,y9,s9,b,x.2,x.2,rfl,gs _,y90,o4,o3,o4,fun ya sa to ya0 hto=>?_⟩;rw [set_set];subst hN;left
   have last:∀ to:List Nat,tOk to x.2 x.2->N [some (.ref i),some hd,some (nD f),some (.bl b),some (nD x.1),some (nD x.2),some (nD p),some (nD q1),some (nD cst),some (nD g),some (nD yy.2),some (tD ti),some (tD tb),some (tD to)] (h.set i (stO ya sa b)):=fun to hto=>by
    subst hN;simp only [VV];exact q _ _ ⟨p,q1,cst,.call g ti tb to⟩ ⟨hp',hq1,hc1,hc2,yy,hy,hti,htb,hto⟩
   cases b with
   |true=>simp only [VV];exact last _ hto
   |false =>
    cases to with
    |nil=>have:=hto.1;simp at this;omega
    |cons t0 tr =>
     obtain ⟨e9,hx⟩:=hto;rw [List.length_cons] at e9
     have cu:U3 (nD t0 :: tr.map nD) (some 1) none=tr.map nD:=by
      unfold U3 HT.sIx;dsimp only;rw [if_neg (by decide),List.length_cons,show min (1:Int).toNat ((List.map nD tr).length + 1)=1 from by show min 1 _=1;omega];show List.take _ (List.map nD tr)=_;exact List.take_of_length_le (by simp)
     simp only [tD,cu,VV];refine ⟨by rw [List.length_map];omega,?_⟩;refine N0 (fun mk=>nD (mk &&& 62)) Src.ok_nil none (fun mk hmk K k=>?_) ?_
     ·simp only [VV];rw [show (62:Int)=((62:Nat):Int) from rfl,a2z];exact k
     ·simp only [List.length_map,VV];refine ⟨by simp,by right,?_⟩
      have:=last (0 :: tr.map fun mk=>mk &&& 62) ⟨by rw [List.length_cons,List.length_map];exact e9,fun z hz=>?_⟩
      ·unfold tD at this;rw [List.map_cons,List.map_map] at this;exact this
      ·rcases List.mem_cons.mp hz with rfl | hz
       ·exact Nat.two_pow_pos _
       ·obtain ⟨mk,hmk,rfl⟩:=List.mem_map.mp hz;exact Nat.lt_of_le_of_lt Nat.and_le_left (hx mk (List.mem_cons_of_mem _ hmk))
 cases b with
 |true =>
  simp only [VV];exact rest _ _ _ y20 (by right)
 |false =>
  simp only [VV];refine ⟨i,y2,s2,_,false,rfl,gs _,y20,⟨by right,by right⟩,fun y3 s3 r3 y30 hr3=>?_⟩;rw [set_set]
  by_cases z:(0:Int) < (r3:Int)
  ·simp only [z,VV]
   by_cases z2:(x.1:Int) - 1 < (p:Int) + 1
   ·simp only [z2,VV];rw [show (x.1:Int) - 1=((x.1 - 1:Nat):Int) by right];exact rest _ _ _ y30 (by right)
   ·simp only [z2,VV];rw [show (p:Int) + 1=((p + 1:Nat):Int) by right];exact rest _ _ _ y30 (by right)
  ·simp only [z,VV];exact rest _ _ q0 y30 (by right)
theorem b8i{f:Addr}{fd:FuncData}(F:Fun K "_law_edge" "_law_edge" b4H f fd)(T:Txt P w K mg)(C_q12:Cal P w K mg base 1 "_law_next" ["_law_state_here","_law_many_here"] (spD K 2 u9))(C_q19:Cal P w K mg base 2 "_law_table" ["_law_state_here","_law_many_here","_law_facts_here"] (spD K 3 a0u)):u7 P w K mg base CX0 3 f fd ["_law_state_here","_law_heads","_law_f"] (spD K 3 b1C) :=
 z8 (k:=2) (b:=b3W) F sc_q6 (fun cdv A outer s H E hr=>by
  refine b9 ?_ ?_
  ·exact g7 (i:=3) sc_q6.nd rfl (Or.inl rfl) (c7 c6 (sv 0) a9)
  refine b9 ?_ ?_
  ·exact Y0 (c7 c6 (sv 1) (sv 2)) (P6 rfl (u6 (j9 (i:=4) sc_q6.nd rfl (Or.inl rfl)) (u6 (j9 (i:=5) sc_q6.nd rfl (Or.inl rfl)) K8)))
  refine b9 ?_ ?_
  ·exact g7 (i:=6) sc_q6.nd rfl (Or.inl rfl) (f7 C_q12 (hr.mono (by decide)) rfl (a7 (sv 0) (a7 (sv 4) b8)))
  refine b9 ?_ ?_
  ·exact g7 (i:=7) sc_q6.nd rfl (Or.inl rfl) (f7 C_q12 (hr.mono (by decide)) rfl (a7 (sv 0) (a7 (sv 4) b8)))
  refine b9 ?_ ?_
  ·refine p7 ?_ ?_ g6
   ·exact F1 (E3 (A9 (o8 (sv 3))) (E1 (e7 N9 (f7 C_q12 (hr.mono (by decide)) rfl (a7 (sv 0) (a7 a9 b8))) a9)))
   refine d0 ?_;refine g7 (i:=7) sc_q6.nd rfl (Or.inl rfl) ?_;exact f9 (P3 rfl) rfl T.b_min PyProof.Rows.boot_min (a7 (g8 m7 (sv 6) a9) (a7 (g8 C8 (sv 4) a9) b8))
  refine b9 ?_ ?_
  ·refine g7 (i:=8) ?_ ?_ ?_ ?_
   ·exact sc_q6.nd
   ·exact rfl
   ·exact Or.inl rfl
   exact g8 m7 a9 (f7 C_q12 (hr.mono (by decide)) rfl (a7 (sv 0) (a7 (c7 c6 (C9 (t7 (a7 a9 (a7 (g8 a3n a9 a9) b8)))) (z7 J8 rfl T.b_int PyProof.Rows.boot_int (a7 (E5 (o7 hr.units) (f7 C_q12 (hr.mono (by decide)) rfl (a7 (sv 0) (a7 a9 b8))) a9) b8))) b8)))
  refine b9 ?_ ?_
  ·refine p7 ?_ ?_ g6
   ·exact e7 (o7 hr.units) (f7 C_q12 (hr.mono (by decide)) rfl (a7 (sv 0) (a7 a9 b8))) a9
   refine d0 ?_;refine g9 ?_;refine i8 (n:=5) ?_;refine a7 f8 ?_;refine a7 (sv 6) ?_;refine a7 (sv 7) ?_;refine a7 (sv 8) ?_;refine a7 ?_ b8;exact f7 C_q19 (hr.mono (by decide)) rfl (a7 (sv 0) (a7 (sv 5) (a7 (sv 5) b8)))
  refine b9 ?_ ?_
  ·refine g7 (i:=9) sc_q6.nd rfl (Or.inl rfl) ?_;exact f7 C_q12 (hr.mono (by decide)) rfl (a7 (sv 0) (a7 (f9 n8 rfl T.b_len PySem.boot_len (a7 (sv 1) b8)) b8))
  refine b9 ?_ ?_
  ·exact g7 (i:=10) sc_q6.nd rfl (Or.inl rfl) (c7 c6 (c7 c6 (sv 1) (sv 9)) a9)
  refine b9 ?_ ?_
  ·refine g7 (i:=11) sc_q6.nd rfl (Or.inl rfl) ?_;exact f7 C_q19 (hr.mono (by decide)) rfl (a7 (sv 0) (a7 (sv 5) (a7 (sv 10) b8)))
  refine b9 ?_ ?_
  ·refine g7 (i:=12) sc_q6.nd rfl (Or.inl rfl) ?_;exact f7 C_q19 (hr.mono (by decide)) rfl (a7 (sv 0) (a7 (sv 10) (a7 (sv 5) b8)))
  refine b9 ?_ ?_
  ·refine g7 (i:=13) sc_q6.nd rfl (Or.inl rfl) ?_;exact f7 C_q19 (hr.mono (by decide)) rfl (a7 (sv 0) (a7 (sv 5) (a7 (sv 5) b8)))
  refine b9 ?_ ?_
  ·refine p7 (A9 (o8 (sv 3))) ?_ g6;refine d0 ?_;refine g7 (i:=13) ?_ ?_ ?_ ?_
   ·exact sc_q6.nd
   ·exact rfl
   ·exact Or.inl rfl
   exact g8 m7 (i8 (a7 a9 b8)) (z7 a3b rfl T.b_tuple PyProof.Rows.boot_tuple (a7 (C9 (F4 rfl (N':= ["_law_mask"]) (js:=[none]) ⟨rfl,by decide +kernel,rfl,rfl,rfl⟩ (B9 (a4q (sv 13) (W1 a9) a1t)) (fun s0 H0 fp=>⟨(j9 (i:=0) (show (["_law_mask"]:List Str).Nodup by decide +kernel) rfl (Or.inl rfl)),L9,(g8 J5 (sv 0) a9)⟩))) b8))
  refine d0 ?_;refine g9 ?_;refine i8 (n:=8) ?_;refine a7 f8 ?_;refine a7 (sv 6) ?_;refine a7 (sv 7) ?_;exact a7 (sv 8) (a7 (sv 9) (a7 (sv 11) (a7 (sv 12) (a7 (sv 13) b8))))) b5X
def b6v:DS:=(d8 (j8 (b7 1) (a2c 4 (A8 (d7 3) (A8 (d7 4) (A8 (d7 5) (A8 (d7 6) U4))))))
  (d8 (j8 (l8 S2 (a8 (b7 0) (a8 (dC (.int 1)) c8))) (d7 7))
  (d8 (j8 (dTk c8) (d7 8))
  (d8 (O5 (F5 (a8 (dOp u0 (dC (.int 1)) (l8 u9 (a8 (b7 7) (a8 (b7 3) c8)))) c8)) (d7 9) (F2 (B6 (b7 8) (a8 (t9 (a8 (dOp u0 (dC (.int 1)) (l8 u9 (a8 (b7 7) (a8 (b7 4) c8)))) (a8 (dOp u0 (dC (.int 1)) (l8 u9 (a8 (b7 7) (a8 (b7 5) c8)))) c8))) c8))))
  (d8 (j8 (dV (G4 [none] (G2 (b7 8)) (d7 0) M7 (dTk c8))) (d7 10))
  (d8 (O5 (a8t (a8 (dC (.int 2)) (a8 (dCB a0D (a8 (dCB A0 (a8 (b7 0) c8)) (a8 (dOp u0 (dC (.int 2)) (dOp K6 (b7 2) (b7 6))) c8))) (a8 (b7 2) c8)))) (d7 11) (d8 (j8 (l8 S2 (a8 (b7 0) (a8 (b7 11) c8))) (d7 7))
  (d8 (j8 (l8 u9 (a8 (b7 7) (a8 (dCB A0 (a8 (b7 8) c8)) c8))) (d7 9))
  (F2 (B6 (dOp pIx (b7 10) (b7 9)) (a8 (l8 b1C (a8 (b7 7) (a8 (b7 8) (a8 (b7 9) c8)))) c8))))))
  (l9 (dV (G4 [none,some 8,some 10] (F5 (a8 (dCB A0 (a8 (b7 8) c8)) c8)) (d7 0) M7 (t9 (a8 (dOp pIx (dOp pIx (b7 1) (b7 0)) (dC (.int 0))) (a8 (dOp pIx (dOp pIx (b7 1) (b7 0)) (dC (.int 1))) (a8 (dOp pIx (b7 2) (b7 0)) c8)))))))))))))
def eO(l:List Edge):O:=.lst (l.map eD)
def cH(h:Hh)(hs:Hd)(es:List (List Edge))(g:Hh):Hh:=h ++ (.lst (hs.map pD) :: (es.map eO ++ g))
theorem b5e(h:Hh)(hs:Hd)(es:List (List Edge))(g:Hh):(cH h hs es g)[h.length]?=some (.lst (hs.map pD)):=by
 unfold cH;rw [List.getElem?_append_right (Nat.le_refl _),Nat.sub_self];rfl
theorem b8o(h:Hh)(hs:Hd){es:List (List Edge)}{f:Nat}{l:List Edge}(e:es[f]?=some l)(g:Hh):(cH h hs es g)[h.length + 1 + f]?=some (.lst (l.map eD)):=by
 unfold cH;rw [List.getElem?_append_right (by right),show h.length + 1 + f - h.length=f + 1 by right,List.getElem?_cons_succ,List.getElem?_append_left (by rw [List.length_map];exact m9 e),List.getElem?_map,e];rfl
theorem b9X(h:Hh)(hs:Hd){es:List (List Edge)}{f:Nat}(hf:f < es.length)(l:List Edge)(g:Hh):(cH h hs es g).set (h.length + 1 + f) (.lst (l.map eD))=cH h hs (es.set f l) g:=by
 unfold cH;rw [List.set_append_right _ _ (by right),show h.length + 1 + f - h.length=f + 1 by right,List.set_cons_succ,List.set_append_left _ _ (by rw [List.length_map];exact hf),List.map_set];rfl
theorem b0Q(h:Hh)(hs:Hd)(es:List (List Edge))(g x:Hh):cH h hs es g ++ x=cH h hs es (g ++ x):=by
 unfold cH;simp
theorem a7F(h:Hh)(a b:O):(h ++ [a,b])[h.length]?=some a:=by rw [List.getElem?_append_right (Nat.le_refl _),Nat.sub_self];rfl
theorem b3o(h:Hh)(a b:O):(h ++ [a,b])[h.length + 1]?=some b:=by rw [List.getElem?_append_right (by right),show h.length + 1 - h.length=1 by right];rfl
theorem a3V(h:Hh)(a b c:O):(h ++ [a,b]).set h.length c=h ++ [c,b]:=by rw [List.set_append_right _ _ (Nat.le_refl _),Nat.sub_self];rfl
theorem b6r(h:Hh)(a b c:O):(h ++ [a,b]).set (h.length + 1) c=h ++ [a,c]:=by rw [List.set_append_right _ _ (by right),show h.length + 1 - h.length=1 by right];rfl
theorem b0K{i j c:Int}{k:Nat}(ok:G9 i j c)(h:k < E7 i j c):i + (k:Int) * c < j:=by
 obtain ⟨a1,a2,a3,a4,a5,a6⟩:=ok;unfold E7 at h
 split at h
 ·have h0:=Int.ediv_nonneg (show 0 <= j - i - 1 by right) (show 0 <= c by right);have h1:(k:Int) <= (j - i - 1) / c:=by right
  have h2:=Int.mul_le_mul_of_nonneg_right h1 (show 0 <= c by right);have h3:=Int.ediv_mul_le (j - i - 1) (show c ≠ 0 by right);omega
 ·omega
theorem a4H{i j c:Int}(ok:G9 i j c):((E7 i j c:Nat):Int) <= j:=by
 obtain ⟨a1,a2,a3,a4,a5,a6⟩:=ok;unfold E7;split
 ·have:(j - i - 1) / c <= j - i - 1:=Int.ediv_le_self _ (by right)
  omega
 ·omega
def mkC(hs:Hd)(es:List (List Edge)):i9:=(hs.zip es).map fun x=>⟨x.1.1,x.1.2,x.2⟩
theorem b1G{hs:Hd}{es:List (List Edge)}(hl:es.length=hs.length){f:Nat}{F:Fn}(e:(mkC hs es)[f]?=some F):∃ x l,hs[f]?=some x/\es[f]?=some l/\F=⟨x.1,x.2,l⟩:=by
 unfold mkC at e;rw [List.getElem?_map] at e
 cases q:(hs.zip es)[f]? with
 |none=>rw [q] at e;cases e
 |some y =>
  rw [q] at e;cases e;rw [List.getElem?_zip_eq_some] at q;exact ⟨y.1,y.2,q.1,q.2,rfl⟩
theorem a7r{hs:Hd}{es:List (List Edge)}{f:Nat}{x:Nat×Nat}{l:List Edge}(h1:hs[f]?=some x)(h2:es[f]?=some l):(mkC hs es)[f]?=some ⟨x.1,x.2,l⟩:=by
 unfold mkC;rw [List.getElem?_map,List.getElem?_zip_eq_some (z:=(x,l)) |>.mpr ⟨h1,h2⟩];rfl
theorem b5S{hs:Hd}{es:List (List Edge)}(ok:hOk hs)(h1:1 <= hs.length)(h6:hs.length <= 6)(hl:es.length=hs.length)(he:∀ (f:Nat) (x:Nat×Nat) (l:List Edge),hs[f]?=some x->es[f]?=some l->l.length <= 100/\∀ e ∈ l,b3I hs x e):WF (mkC hs es):=by
 have len:(mkC hs es).length=hs.length:=by unfold mkC;rw [List.length_map,List.length_zip,hl];omega
 refine ⟨by right,by right,fun f F hF=>?_⟩;obtain ⟨x,l,hx,hl',rfl⟩:=b1G hl hF;obtain ⟨o1,o2,o3,o4⟩:=ok f x hx;obtain ⟨o5,o6⟩:=he f x l hx hl';refine ⟨o1,o2,o3,o4,o5,fun e hm=>?_⟩;obtain ⟨p1,p2,p3,p4,p5⟩:=o6 e hm;refine ⟨p1,p2,p3,p4,?_⟩;obtain ⟨a,b,c,k⟩:=e
 cases k with
 |step t=>exact p5
 |call g i b o =>
  obtain ⟨y,hy,t1,t2,t3⟩:=p5;have hg:g < es.length:=by rw [hl];exact (List.getElem?_eq_some_iff.mp hy).1
  exact ⟨⟨y.1,y.2,es[g]⟩,a7r hy (List.getElem?_eq_getElem hg),t1,t2,t3⟩
def b2i:DSp:=fun ds h Q=>∃ (ns:List Int) (many wide deep ed:Nat),ds=[.scr (ns.map .int),.tup [nD many,nD wide,nD deep,nD ed],.int 2]/\ns.length <= 63/\(∀ x ∈ ns,Builtin.Int.intBits x <= 1048576)/\1 <= many/\many <= 6/\1 <= wide/\wide <= 10/\1 <= deep/\deep <= 6/\ed <= 24/\∀ C,WF C->Q (cD C) h
theorem b3C:∀ ds h Q,b2i ds h Q->k8 12 b6v ds h (Dr h Q):=by
 rintro ds h Q ⟨ns,many,wide,deep,ed,rfl,hl,hb,m1,m6,w1,w10,d1,d6,e24,q⟩
 delta k8 q8 b6v;simp only [VS];left;simp only [VV];refine ⟨trivial,?_⟩;subst hN;left;simp only [VV];refine ⟨ns,1,rfl,hl,hb,by right,fun y s b y0=>?_⟩;subst hN;left;simp only [VV];rw [List.append_assoc,List.length_append];show N [some (.scr (ns.map .int)),some (.tup [nD many,nD wide,nD deep,nD ed]),some (.int 2),some (nD many),some (nD wide),some (nD deep),some (nD ed),some (.ref h.length),some (.ref (h.length + 1)),none,none,none] (h ++ [stO y s b,.lst []]);subst hN;left;simp only [VV];refine ⟨h.length,y,s,_,b,rfl,a7F ..,y0,⟨by right,by right⟩,fun y1 s1 r1 y10 hr1=>?_⟩;rw [a3V];simp only [VV];refine ⟨by right,?_⟩;obtain ⟨n,hn⟩:∃ n:Nat,(1 + (r1:Int)).toNat=n:=⟨_,rfl⟩
 have n1:1 <= n:=by right
 have n6:n <= 6:=by right
 rw [hn,v9];refine w5 (fun p δ h'=>∃ (hs:Hd) (y s:Int) (x9:Option D),δ=[some (.scr (ns.map .int)),some (.tup [nD many,nD wide,nD deep,nD ed]),some (.int 2),some (nD many),some (nD wide),some (nD deep),some (nD ed),some (.ref h.length),some (.ref (h.length + 1)),x9,none,none]/\h'=h ++ [stO y s b,.lst (hs.map pD)]/\0 <= y/\hs.length=p.length/\hOk hs) ⟨[],y1,s1,none,rfl,rfl,y10,rfl,fun f x e=>by simp at e⟩ (fun _ _ _ _=>Src.ok_nil) ?_ ?_
 ·rintro p d r' δ h' N1 e ⟨hs,y,s,x9,rfl,rfl,y0,hlen,ok⟩ hN1
  obtain ⟨hdp,hd⟩:=G1 e;simp only [b3o,VV];refine ⟨h.length,y,s,_,b,rfl,a7F ..,y0,⟨by right,by right⟩,fun y2 s2 r2 y20 hr2=>?_⟩;rw [a3V];simp only [VV];refine ⟨h.length,y2,s2,_,b,rfl,a7F ..,y20,⟨by right,by right⟩,fun y3 s3 r3 y30 hr3=>?_⟩;rw [a3V];simp only [b3o,b6r,List.length_map,VV];refine ⟨by right,hN1 _ _ ⟨hs ++ [(1 + r2,1 + r3)],y3,s3,_,rfl,?_,y30,by simp [hlen],fun f x hx=>?_⟩⟩
  ·rw [List.map_append];show _=h ++ [stO y3 s3 b,O.lst (hs.map pD ++ [.tup [.int ((1 + r2:Nat):Int),.int ((1 + r3:Nat):Int)]])];rw [Int.natCast_add,Int.natCast_add];rfl
  ·rcases E8 hx with z | ⟨_,rfl⟩
   ·exact ok f x z
   ·exact ⟨by show 1 <= 1 + r2;omega,by show 1 + r2 <= 10;omega,by show 1 <= 1 + r3;omega,by show 1 + r3 <= 6;omega⟩
 ·rintro δ h' ⟨hs,y,s,x9,rfl,rfl,y0,hlen,ok⟩
  rw [List.length_range] at hlen;subst hN;left;have e0:h ++ [stO y s b,O.lst (hs.map pD)]=(h ++ [stO y s b]) ++ [O.lst (hs.map pD)]:=by simp
  have l0:h.length + 1=(h ++ [stO y s b]).length:=by simp
  rw [e0,l0];generalize hh1:h ++ [stO y s b]=h1;have src:=S5 (t8 h1 (.lst (hs.map pD)));simp only [src,VV];refine ⟨by rw [List.length_map];omega,?_⟩;refine W4 (g:=pD) (fun p acc δ h'=>(∃ o,δ=[o])/\acc=(List.range p.length).map (fun j=>.ref (h1.length + 1 + j))/\h'=cH h1 hs (List.replicate p.length ([]:List Edge)) []) ⟨⟨none,rfl⟩,rfl,by unfold cH;simp⟩ ?_ ?_ ?_
  ·rintro p acc δ h' ⟨_,_,rfl⟩ z hz
   rw [List.mem_singleton.mp hz];exact b5e ..
  ·rintro p y r' acc δ h' N1 e ⟨⟨o,rfl⟩,rfl,rfl⟩ hN1
   simp only [VV];refine hN1 _ _ _ ⟨⟨_,rfl⟩,?_,?_⟩
   ·rw [show (p ++ [y]).length=p.length + 1 by simp,List.range_succ,List.map_append];unfold cH
    simp;omega
   ·rw [show (p ++ [y]).length=p.length + 1 by simp,List.replicate_succ',b0Q];unfold cH;rw [List.map_append]
    simp [eO]
  ·rintro acc δ h' ⟨⟨o,rfl⟩,rfl,rfl⟩
   subst hN;left;simp only [List.length_map,VV];have jb:∃ j:Int,(if 2 + 2 * (ed:Int) < (ns.length:Int) then 2 + 2 * (ed:Int) else (ns.length:Int))=j/\0 <= j/\j <= 63:=⟨_,rfl,by split <;> omega,by split <;> omega⟩
   obtain ⟨j,ej,j0,j63⟩:=jb;rw [ej];have sok:G9 2 j 2:=⟨by decide,by decide,j0,by right,by decide,by decide⟩
   refine ⟨a2l (by decide),sok,?_⟩;have sle:=a4H sok;unfold O2;refine w5 (fun p δ h'=>∃ (es:List (List Edge)) (g:Hh) (x7 x9 x11:Option D),δ=[some (.scr (ns.map .int)),some (.tup [nD many,nD wide,nD deep,nD ed]),some (.int 2),some (nD many),some (nD wide),some (nD deep),some (nD ed),x7,some (.ref h1.length),x9,some (.lst ((List.range hs.length).map (fun j=>.ref (h1.length + 1 + j)))),x11]/\h'=cH h1 hs es g/\es.length=hs.length/\∀ (f:Nat) (x:Nat×Nat) (l:List Edge),hs[f]?=some x->es[f]?=some l->l.length <= p.length/\∀ e ∈ l,b3I hs x e) ⟨List.replicate hs.length [],[],_,_,_,rfl,rfl,by simp,fun f x l hf hl2=>?_⟩ (fun _ _ _ _=>Src.ok_nil) ?_ ?_
   ·have:=List.eq_of_mem_replicate (List.mem_of_getElem? hl2)
    subst this;exact ⟨Nat.zero_le _,fun e he=>nomatch he⟩
   ·rintro p kk r' δ h' N1 e ⟨es,g,x7,x9,x11,rfl,rfl,hel,hes⟩ hN1
    obtain ⟨hkp,hk⟩:=G1 e;have lt:=b0K sok hk;simp only [VV];left;simp only [VV];refine ⟨ns,2 + kk * 2,by rw [show (2:Int) + (kk:Int) * 2=((2 + kk * 2:Nat):Int) by right],hl,hb,by right,fun ya sa ba ya0=>?_⟩;have hg0:∀ o,w6 (cH h1 hs es g ++ [o]) (.ref h1.length)=some (hs.map pD):=fun o=>by rw [b0Q];exact v8 (b5e ..)
    subst hN;left;simp only [p6 (hg0 _),List.length_map,VV];refine ⟨_,ya,sa,_,ba,rfl,t8 ..,ya0,⟨by right,by right⟩,fun yb sb f yb0 hf=>?_⟩;rw [A2];have fl:f < hs.length:=by right
    obtain ⟨x,hx⟩:∃ x,hs[f]?=some x:=⟨_,List.getElem?_eq_getElem fl⟩
    obtain ⟨l,hl2⟩:∃ l,es[f]?=some l:=⟨_,List.getElem?_eq_getElem (by right)⟩
    have ixe:atI ((List.range hs.length).map (fun j=>D.ref (h1.length + 1 + j))) (f:Int)=some (.ref (h1.length + 1 + f)):=by rw [atN,List.getElem?_map,List.getElem?_range fl];rfl
    have tg:∀ o,(cH h1 hs es g ++ [o])[h1.length + 1 + f]?=some (.lst (l.map eD)):=fun o=>by rw [b0Q];exact b8o h1 hs hl2 _
    subst hN;simp only [ixe,tg,VV];refine ⟨_,yb,sb,ba,.ref h1.length,hs,f,x,rfl,t8 ..,yb0,hg0 _,hx,ok,by right,fun yc sc E hE=>?_⟩;rw [A2];simp only [tg,List.length_map,VV];obtain ⟨q1,q2⟩:=hes f x l hx hl2
    have se:(cH h1 hs es g ++ [stO yc sc ba]).set (h1.length + 1 + f) (.lst (l.map eD ++ [eD E]))=cH h1 hs (es.set f (l ++ [E])) (g ++ [stO yc sc ba]):=by
     rw [b0Q,<- b9X h1 hs (by right:f < es.length),List.map_append];rfl
    rw [se];refine ⟨by right,hN1 _ _ ⟨es.set f (l ++ [E]),_,_,_,_,rfl,rfl,by simp [hel],fun f' x' l' hx' hl'=>?_⟩⟩
    by_cases z:f=f'
    ·subst z;rw [hx] at hx';cases hx'
     rw [List.getElem?_set_self (by right)] at hl'
     cases hl'
     refine ⟨by simp;omega,fun e9 he9=>?_⟩
     rcases List.mem_append.mp he9 with w | w
     ·exact q2 e9 w
     ·rw [List.mem_singleton.mp w];exact hE
    ·rw [List.getElem?_set_ne z] at hl';obtain ⟨u1,u2⟩:=hes f' x' l' hx' hl';exact ⟨by simp;omega,u2⟩
   ·rintro δ h' ⟨es,g,x7,x9,x11,rfl,rfl,hel,hes⟩
    subst hN;have hg0:w6 (cH h1 hs es g) (.ref h1.length)=some (hs.map pD):=v8 (b5e ..);simp only [p6 hg0,List.length_map,VV];refine ⟨⟨by right,by right⟩,by rw [w4];omega,?_⟩;rw [v9,Int.toNat_natCast];refine N0 (fun f=>.tup [nD (hs.getD f (0,0)).1,nD (hs.getD f (0,0)).2,.ref (h1.length + 1 + f)]) Src.ok_nil none (fun f hf K k=>?_) ?_
    ·have fl:f < hs.length:=List.mem_range.mp hf;have ixe:atI ((List.range hs.length).map (fun j=>D.ref (h1.length + 1 + j))) (0 + (f:Int))=some (.ref (h1.length + 1 + f)):=by rw [Int.zero_add,atN,List.getElem?_map,List.getElem?_range fl];rfl
     have ixh:ixD (cH h1 hs es g) (.ref h1.length) (.int (0 + (f:Int)))=some (pD (hs.getD f (0,0))):=by
      rw [r9 hg0,Int.zero_add,atN,List.getElem?_map,List.getD_eq_getElem?_getD,List.getElem?_eq_getElem fl];rfl
     simp only [ixe,ixh,pD,VV];exact k
    ·have wf:WF (mkC hs es):=b5S ok (by right) (by right) hel (fun f x l h1 h2=>⟨Nat.le_trans (hes f x l h1 h2).1 (by rw [List.length_range];omega),(hes f x l h1 h2).2⟩);refine ⟨h,_,cD (mkC hs es),(by unfold cH;rw [<- hh1,List.append_assoc]),rfl,fun _ _ e=>.inl e,?_,q _ wf⟩;have len:(mkC hs es).length=hs.length:=by unfold mkC;rw [List.length_map,List.length_zip,hel];omega
     refine .lst (.of_get (by rw [List.length_map,List.length_map,List.length_range,len]) fun f x y hx hy=>?_);rw [List.getElem?_map] at hx hy
     have fl:f < hs.length:=by
      rcases Nat.lt_or_ge f hs.length with z | z
      ·exact z
      ·rw [List.getElem?_eq_none (by rw [List.length_range];exact z)] at hx;cases hx
     rw [List.getElem?_range fl] at hx;cases hx;obtain ⟨xx,hxx⟩:∃ x,hs[f]?=some x:=⟨_,List.getElem?_eq_getElem fl⟩
     obtain ⟨l,hl2⟩:∃ l,es[f]?=some l:=⟨_,List.getElem?_eq_getElem (by right)⟩
     rw [a7r hxx hl2] at hy;cases hy;dsimp only;rw [List.getD_eq_getElem?_getD,hxx];have hlh:h.length <= h1.length:=by rw [<- hh1];simp
     have tge:=b8o h1 hs hl2 g;exact .tup (.cons (.nr rfl) (.cons (.nr rfl) (.cons (.opn (by right) tge (.of (E6 b6n l))) .nil)))
theorem b8d{f:Addr}{fd:FuncData}(F:Fun K "_law_chart" "_law_chart" b4Z f fd)(T:Txt P w K mg)(C_q18:Cal P w K mg base 2 "_law_state" ["_law_script","_law_k"] (spD K 2 S2))(C_q12:Cal P w K mg base 1 "_law_next" ["_law_state_here","_law_many_here"] (spD K 2 u9))(C_q6:Cal P w K mg base 3 "_law_edge" ["_law_state_here","_law_heads","_law_f"] (spD K 3 b1C)):u7 P w K mg base CX0 4 f fd ["_law_script","_law_sizes","_law_gap"] (spD K 3 b2i) :=
 L7 (k:=3) (b:=b6v) F sc_q4 (fun cdv A outer s H E hr=>by
  refine b9 ?_ ?_
  ·exact Y0 (sv 1) (P6 rfl (u6 (j9 (i:=3) sc_q4.nd rfl (Or.inl rfl)) (u6 (j9 (i:=4) sc_q4.nd rfl (Or.inl rfl)) (u6 (j9 (i:=5) sc_q4.nd rfl (Or.inl rfl)) (u6 (j9 (i:=6) sc_q4.nd rfl (Or.inl rfl)) K8)))))
  refine b9 ?_ ?_
  ·exact g7 (i:=7) sc_q4.nd rfl (Or.inl rfl) (f7 C_q18 (hr.mono (by decide)) rfl (a7 (sv 0) (a7 a9 b8)))
  refine b9 ?_ ?_
  ·exact g7 (i:=8) sc_q4.nd rfl (Or.inr rfl) (S9 (t7 b8))
  refine b9 ?_ ?_
  ·refine J0 PassesOwn.never rfl ?_ (j9 (i:=9) sc_q4.nd rfl (Or.inl rfl)) ?_
   ·exact B0 rfl T.b_range (a7 (g8 m7 a9 (f7 C_q12 (hr.mono (by decide)) rfl (a7 (sv 7) (a7 (sv 3) b8)))) b8)
   refine d0 ?_;refine B5 ?_;exact z5 (sv 8) (a7 (i8 (a7 (g8 m7 a9 (f7 C_q12 (hr.mono (by decide)) rfl (a7 (sv 7) (a7 (sv 4) b8)))) (a7 (g8 m7 a9 (f7 C_q12 (hr.mono (by decide)) rfl (a7 (sv 7) (a7 (sv 5) b8)))) b8))) b8)
  refine b9 ?_ ?_
  ·refine g7 (i:=10) ?_ ?_ ?_ ?_
   ·exact sc_q4.nd
   ·exact rfl
   ·exact Or.inr rfl
   refine C9 ?_;exact F4 rfl (N':= ["_law_head"]) (js:=[none]) ⟨rfl,by decide +kernel,rfl,rfl,rfl⟩ (B9 (sv 8)) (fun s0 H0 fp=>⟨(j9 (i:=0) (show (["_law_head"]:List Str).Nodup by decide +kernel) rfl (Or.inl rfl)),L9,(S9 (t7 b8))⟩)
  refine b9 ?_ ?_
  ·refine J0 PassesOwn.never rfl ?_ (j9 (i:=11) sc_q4.nd rfl (Or.inl rfl)) ?_
   ·exact a5J rfl T.b_range (a7 a9 (a7 (f9 (P3 rfl) rfl T.b_min PyProof.Rows.boot_min (a7 (f9 n8 rfl T.b_len PySem.boot_len (a7 (sv 0) b8)) (a7 (g8 m7 a9 (g8 z6 (sv 2) (sv 6))) b8))) (a7 (sv 2) b8)))
   refine b9 ?_ ?_
   ·exact g7 (i:=7) sc_q4.nd rfl (Or.inl rfl) (f7 C_q18 (hr.mono (by decide)) rfl (a7 (sv 0) (a7 (sv 11) b8)))
   refine b9 ?_ ?_
   ·refine g7 (i:=9) sc_q4.nd rfl (Or.inl rfl) ?_;exact f7 C_q12 (hr.mono (by decide)) rfl (a7 (sv 7) (a7 (f9 n8 rfl T.b_len PySem.boot_len (a7 (sv 8) b8)) b8))
   refine d0 ?_;refine B5 ?_;exact z5 (c7 c6 (sv 10) (sv 9)) (a7 (f7 C_q6 (hr.mono (by decide)) rfl (a7 (sv 7) (a7 (sv 8) (a7 (sv 9) b8)))) b8)
  refine d0 ?_;refine g9 ?_;refine C9 ?_;exact F4 rfl (N':= ["_law_f","_law_heads","_law_edges"]) (js:=[none,some 8,some 10]) ⟨rfl,by decide +kernel,rfl,rfl,rfl⟩ (B0 rfl T.b_range (a7 (f9 n8 rfl T.b_len PySem.boot_len (a7 (sv 8) b8)) b8)) (fun s0 H0 fp=>⟨(j9 (i:=0) (show (["_law_f","_law_heads","_law_edges"]:List Str).Nodup by decide +kernel) rfl (Or.inl rfl)),L9,(i8 (a7 (c7 c6 (c7 c6 (sv 1) (sv 0)) a9) (a7 (c7 c6 (c7 c6 (sv 1) (sv 0)) a9) (a7 (c7 c6 (sv 2) (sv 0)) b8))))⟩)) b3C
def a7O:DS:=(d8 (j8 (l8 a2M (a8 (b7 0) (a8 (dOp pIx (b7 1) (dC (.int 1))) (a8 (b7 2) (a8 (dC (.str "call")) (a8 (dOp pIx (b7 1) (dC (.int 3))) c8)))))) (d7 5))
  (d8 (o9 (dOr (k7 (dOp (pIs false) (b7 5) (dC .non))) (dOr (k7 (dOp (pEq true) (dOp pIx (b7 3) (dC (.int 1))) (dOp pIx (b7 5) (dC (.int 4))))) (k7 (dOp (pEq true) (dOp pIx (b7 3) (dC (.int 3))) (dOp M2 (dOp pIx (dOp pIx (b7 0) (dOp pIx (b7 5) (dC (.int 4)))) (dC (.int 0))) (dC (.int 1))))))) (l9 (dC .non)) k6)
  (d8 (o9 (dOr (M3 (dTr (l8 Z1 (a8 (dOp pIx (b7 5) (dC (.int 5))) (a8 (dOp pIx (b7 1) (dC (.int 4))) (a8 (dOp pIx (b7 3) (dC (.int 2))) c8)))))) (M3 (dTr (l8 Z1 (a8 (dOp pIx (b7 5) (dC (.int 6))) (a8 (dOp pIx (b7 3) (dC (.int 4))) (a8 (b7 4) c8))))))) (l9 (dC .non)) k6)
  (l9 (t9 (a8 (dC (.str "within")) (a8 (dOp pIx (b7 1) (dC (.int 1))) (a8 (dOp pIx (b7 1) (dC (.int 2))) (a8 (dOp pIx (b7 5) (dC (.int 2))) (a8 (b7 4) (a8 (dOp u0 (dOp u0 (dOp pIx (b7 1) (dC (.int 5))) (dOp pIx (b7 5) (dC (.int 3)))) (dOp pIx (b7 3) (dC (.int 5)))) c8)))))))))))
def a3l(C:i9)(f a p d c g b x y c':Nat)(n e:Int):Option Clm:=(takes C f p d .inn n b).bind fun E=>match E.k with
 |.call g' _ bk _=>(C[g']?).bind fun G=>if g'=g/\x + 1=G.places/\br bk y e=true then some (.within f a E.q e.toNat (c + E.cost + c')) else none
 |_=>none
def a4o:DSp:=fun ds h Q=>∃ (c:D) (C:i9) (f a p d x g b px y x':Nat) (n e:Int),ds=[c,clD (.within f a p d x),.int n,clD (.within g b px y x'),.int e]/\ChD h c C/\WF C/\Q6 C (.within f a p d x)/\Q6 C (.within g b px y x')/\Q (oD clD (a3l C f a p d x g b px y x' n e)) h
theorem b0N:∀ ds h Q,a4o ds h Q->k8 6 a7O ds h Q:=by
 rintro ds h Q ⟨c,C,f,a,p,d,x,g,b,px,y,x',n,e,rfl,hc,wf,⟨F,hF,o1,o2,o3⟩,⟨G,hG,p1,p2,p3⟩,q⟩
 unfold a3l at q;rw [a0t] at q;delta k8 q8 a7O;simp only [VS];left;simp only [clD,VV];refine ⟨c,C,f,p,F,n,false,rfl,hc,hF,?_⟩;subst hN;have ew:(Mv.inn == Mv.step)=false:=rfl;rw [ew] at q
 cases hE:D7 C f n false p with
 |none =>
  rw [hE] at q;left;simp only [oD,VV];exact q
 |some E =>
  obtain ⟨F',hF',⟨o1',o2',o3',o4',o5'⟩,hs,hp⟩:=T2 wf hE;rw [hF] at hF';cases hF'
  rw [hE] at q;obtain ⟨ep,eq,ec,ek⟩:=E
  cases ek with
  |step t=>cases hs
  |call g' i bk o =>
   obtain ⟨G',hG',t1,t2,t3⟩:=o5';obtain ⟨xx,e1,e2⟩:=hc.fn hG'
   have q:Q (oD clD ((if br i d b=true then some (Edge.mk ep eq ec (.call g' i bk o)) else none).bind fun E=>match E.k with
    |.call g' _ bk _=>(C[g']?).bind fun G=>if g'=g/\px + 1=G.places/\br bk y e=true then some (.within f a E.q e.toNat (x + E.cost + x')) else none
    |_=>none)) h:=q
   have e3:((g:Int) == (g':Int))=decide (g'=g):=by first | exact Q3 _ _ | exact O3 _ _ | exact Q7 _ _
   have e4:((px:Int) == (G'.places:Int) - 1)=decide (px + 1=G'.places):=by first | exact Q3 _ _ | exact O3 _ _ | exact Q7 _ _
   have non:(br i d b=true->g'=g->px + 1=G'.places->br bk y e=true->False)->Q .non h:=fun z=>by
    by_cases b1:br i d b=true
    ·rw [if_pos b1] at q;have q:Q (oD clD ((C[g']?).bind fun G=>if g'=g/\px + 1=G.places/\br bk y e=true then some (.within f a eq e.toNat (x + ec + x')) else none)) h:=q;rw [hG'] at q;have q:Q (oD clD (if g'=g/\px + 1=G'.places/\br bk y e=true then some (.within f a eq e.toNat (x + ec + x')) else none)) h:=q;rw [if_neg (fun w=>z b1 w.1 w.2.1 w.2.2)] at q;exact q
    ·rw [if_neg b1] at q;exact q
   left;simp only [oD,eD,e3,VV]
   by_cases h1:g'=g
   ·have hG'':G'=G:=by rw [h1] at hG';rw [hG] at hG';exact (Option.some.inj hG').symm
    simp only [h1,e1,e4,VV];rw [h1] at e1;rw [show ixD h c (nD g)=_ from e1];simp only [e4,VV]
    by_cases h2:px + 1=G'.places
    ·simp only [h2,VV];subst hN;left;simp only [VV];refine ⟨i,_,_,d,(b:Int),rfl,t1,(wf.fn g' G' hG').2.2.2.1,o3,?_⟩;simp only [VV]
     by_cases b1:br i d b=true
     ·simp only [b1,VV];refine ⟨bk,_,_,y,e,rfl,t2,(wf.fn f F hF).2.2.2.1,by rw [hG''];exact p3,?_⟩;simp only [VV]
      by_cases b2:br bk y e=true
      ·simp only [b2,VV];subst hN;simp only [VV];rw [if_pos b1] at q;have q:Q (oD clD ((C[g']?).bind fun G=>if g'=g/\px + 1=G.places/\br bk y e=true then some (.within f a eq e.toNat (x + ec + x')) else none)) h:=q;rw [hG'] at q;have q:Q (oD clD (if g'=g/\px + 1=G'.places/\br bk y e=true then some (.within f a eq e.toNat (x + ec + x')) else none)) h:=q;rw [if_pos ⟨h1,h2,b2⟩] at q;have he:0 <= e:=by unfold br at b2;rw [Bool.and_eq_true] at b2;exact of_decide_eq_true b2.1
       have q:Q (.tup [.str "within",nD f,nD a,nD eq,.int ((e.toNat:Nat):Int),.int ((x + ec + x':Nat):Int)]) h:=q;rw [Int.toNat_of_nonneg he,Int.natCast_add,Int.natCast_add] at q;exact q
      ·simp only [b2,VV];exact non fun _ _ _ z=>b2 z
     ·simp only [b1,VV];exact non fun z _ _ _=>b1 z
    ·simp only [h2,VV];exact non fun _ _ z _=>h2 z
   ·simp only [h1,VV];exact non fun _ z _ _=>h1 z
theorem b5y{f:Addr}{fd:FuncData}(F:Fun K "_law_short" "_law_short" a7V f fd)(T:Txt P w K mg)(C_q7:Cal P w K mg base 1 "_law_edge_of" ["_law_chart_here","_law_f","_law_n","_law_sort","_law_p"] (spD K 5 a2M))(C_q1:Cal P w K mg base 1 "_law_brings" ["_law_table_here","_law_one","_law_other"] (spD K 3 Z1)):u7 P w K mg base CX0 2 f fd ["_law_chart_here","_law_one","_law_n","_law_other","_law_e"] (spD K 5 a4o) :=
 z8 (k:=1) (b:=a7O) F sc_q17 (fun cdv A outer s H E hr=>by
  refine b9 ?_ ?_
  ·refine g7 (i:=5) sc_q17.nd rfl (Or.inl rfl) ?_;exact f7 C_q7 (hr.mono (by decide)) rfl (a7 (sv 0) (a7 (c7 c6 (sv 1) a9) (a7 (sv 2) (a7 f8 (a7 (c7 c6 (sv 1) a9) b8)))))
  refine b9 ?_ ?_
  ·refine p7 ?_ (d0 (g9 l7)) g6;exact F1 (B8 (e7 J1 (sv 5) l7) (B8 (e7 (E9 hr.units) (c7 c6 (sv 3) a9) (c7 c6 (sv 5) a9)) (B7 (e7 (E9 hr.units) (c7 c6 (sv 3) a9) (g8 C8 (c7 c6 (c7 c6 (sv 0) (c7 c6 (sv 5) a9)) a9) a9)))))
  refine b9 ?_ ?_
  ·refine p7 ?_ (d0 (g9 l7)) g6;exact F1 (B8 (A9 (o8 (f7 C_q1 (hr.mono (by decide)) rfl (a7 (c7 c6 (sv 5) a9) (a7 (c7 c6 (sv 1) a9) (a7 (c7 c6 (sv 3) a9) b8)))))) (B7 (A9 (o8 (f7 C_q1 (hr.mono (by decide)) rfl (a7 (c7 c6 (sv 5) a9) (a7 (c7 c6 (sv 3) a9) (a7 (sv 4) b8))))))))
  refine d0 ?_;refine g9 ?_;refine i8 (n:=6) ?_;refine a7 f8 ?_;refine a7 (c7 c6 (sv 1) a9) ?_;refine a7 (c7 c6 (sv 1) a9) ?_;refine a7 (c7 c6 (sv 5) a9) ?_;refine a7 (sv 4) ?_;refine a7 ?_ b8;exact g8 m7 (g8 m7 (c7 c6 (sv 1) a9) (c7 c6 (sv 5) a9)) (c7 c6 (sv 3) a9)) b0N
def a5d:DS:=(d8 (j8 (dOp pIx (dV (a8 (b7 2) (a8 (dC (.str "call")) c8))) (dCB W5 (a8 (dOp (pEq true) (b7 2) (dC (.str "step"))) c8))) (d7 5))
  (d8 (j8 (l8 a2M (a8 (b7 0) (a8 (dOp pIx (b7 1) (dC (.int 1))) (a8 (b7 3) (a8 (b7 5) (a8 (dOp pIx (b7 1) (dOp M2 (dCB A0 (a8 (b7 1) c8)) (dC (.int 3)))) c8)))))) (d7 6))
  (d8 (o9 (k7 (dOp (pIs false) (b7 6) (dC .non))) (l9 (dC .non)) k6)
  (d8 (o9 (k7 (dOp (pEq false) (b7 2) (dC (.str "in")))) (d8 (o9 (dTr (l8 Z1 (a8 (dOp pIx (b7 6) (dC (.int 5))) (a8 (dOp pIx (b7 1) (dC (.int 3))) (a8 (b7 4) c8))))) (l9 (t9 (a8 (dC (.str "at")) (a8 (dOp pIx (b7 6) (dC (.int 4))) (a8 (dC (.int 0)) (a8 (b7 4) (a8 (dOp u0 (dOp pIx (b7 1) (dC (.int 4))) (dOp pIx (b7 6) (dC (.int 3)))) c8))))))) k6)
  (l9 (dC .non))) k6)
  (d8 (o9 (dTr (l8 Z1 (a8 (dOp pIx (b7 6) (dUn a2S (dC (.int 1)))) (a8 (dOp pIx (b7 1) (dC (.int 4))) (a8 (b7 4) c8))))) (l9 (t9 (a8 (dC (.str "within")) (a8 (dOp pIx (b7 1) (dC (.int 1))) (a8 (dOp pIx (b7 1) (dC (.int 2))) (a8 (dOp pIx (b7 6) (dC (.int 2))) (a8 (b7 4) (a8 (dOp u0 (dOp pIx (b7 1) (dC (.int 5))) (dOp pIx (b7 6) (dC (.int 3)))) c8)))))))) k6)
  (l9 (dC .non)))))))
def a1D(C:i9)(w:Mv)(one:Clm)(n e:Int):Option Clm:=match w,one with
 |.inn,.at f p d c=>(takes C f p d .inn n e).bind fun E=>match E.k with | .call g _ _ _=>some (.at g 0 e.toNat (c + E.cost)) | _=>none
 |.inn,_=>none
 |w,.within f a p d c=>(takes C f p d w n e).map fun E=>.within f a E.q e.toNat (c + E.cost)
 |_,_=>none
def a2t:DSp:=fun ds h Q=>∃ (c:D) (C:i9) (w:Mv) (one:Clm) (n e:Int),ds=[c,clD one,.str w.w,.int n,.int e]/\ChD h c C/\WF C/\Q6 C one/\(w = .inn ↔ ∃ f p d x,one = .at f p d x)/\Q (oD clD (a1D C w one n e)) h
theorem b2B:∀ ds h Q,a2t ds h Q->k8 7 a5d ds h Q:=by
 rintro ds h Q ⟨c,C,w,one,n,e,rfl,hc,wf,ok,hw,q⟩
 have he:∀ {t:List Nat} {d:Nat},br t d e=true->0 <= e:=fun b2=>by unfold br at b2;rw [Bool.and_eq_true] at b2;exact of_decide_eq_true b2.1
 cases one with
 |«at» f p d x =>
  obtain rfl:=hw.mpr ⟨f,p,d,x,rfl⟩
  obtain ⟨F,hF,o1,o2⟩:=ok;have q:Q (oD clD ((takes C f p d .inn n e).bind fun E=>match E.k with | .call g _ _ _=>some (.at g 0 e.toNat (x + E.cost)) | _=>none)) h:=q;rw [a0t,show (Mv.inn == Mv.step)=false from rfl] at q;delta k8 q8 a5d;simp only [VS];left;simp only [Mv.w,VV];subst hN;left;simp only [clD,VV];refine ⟨c,C,f,p,F,n,false,rfl,hc,hF,?_⟩;subst hN
  cases hE:D7 C f n false p with
  |none =>
   rw [hE] at q;left;simp only [oD,VV];exact q
  |some E =>
   obtain ⟨F',hF',⟨o1',o2',o3',o4',o5'⟩,hs,hp⟩:=T2 wf hE;rw [hF] at hF';cases hF'
   rw [hE] at q;obtain ⟨ep,eq,ec,ek⟩:=E
   cases ek with
   |step t=>cases hs
   |call g i bk o =>
    obtain ⟨G',hG',t1,t2,t3⟩:=o5';have q:Q (oD clD ((if br i d e=true then some (Edge.mk ep eq ec (.call g i bk o)) else none).bind fun E=>match E.k with | .call g _ _ _=>some (.at g 0 e.toNat (x + E.cost)) | _=>none)) h:=q;left;simp only [oD,eD,VV];subst hN;left;simp only [VV];refine ⟨i,_,_,d,e,rfl,t1,(wf.fn g G' hG').2.2.2.1,o2,?_⟩;simp only [VV]
    by_cases b1:br i d e=true
    ·simp only [b1,VV];rw [if_pos b1] at q;have q:Q (.tup [.str "at",nD g,nD 0,.int ((e.toNat:Nat):Int),.int ((x + ec:Nat):Int)]) h:=q;rw [Int.toNat_of_nonneg (he b1),Int.natCast_add] at q;exact q
    ·simp only [b1,VV];rw [if_neg b1] at q;exact q
 |within f a p d x =>
  have nw:w ≠ .inn:=fun z=>by obtain ⟨_,_,_,_,z⟩:=hw.mp z;cases z
  obtain ⟨F,hF,o0,o1,o2⟩:=ok
  have q:Q (oD clD ((takes C f p d w n e).map fun E=>.within f a E.q e.toNat (x + E.cost))) h:=by
   cases w with
   |inn=>exact absurd rfl nw
   |_=>exact q
  rw [a0t] at q
  have last:∀ E,D7 C f n (w == .step) p=some E->∃ t,atI (match eD E with | .tup xs=>xs | _=>[]) (-1)=some (tD t)/\E.tab w=t/\tOk t F.facts F.facts:=fun E hE=>by
   obtain ⟨F',hF',⟨o1',o2',o3',o4',o5'⟩,hs,hp⟩:=T2 wf hE;rw [hF] at hF';cases hF'
   obtain ⟨ep,eq,ec,ek⟩:=E
   cases w with
   |inn=>exact absurd rfl nw
   |step =>
    cases ek with
    |call g i bk o=>cases hs
    |step t=>exact ⟨t,rfl,rfl,o5'⟩
   |over =>
    cases ek with
    |step t=>cases hs
    |call g i bk o =>
     obtain ⟨G',hG',t1,t2,t3⟩:=o5';exact ⟨o,rfl,rfl,t3⟩
  have hsw:∀ N':Sl->Hh->Prop,(∀ y6,y6=D.str (sw (w == .step))->N' [some c,some (clD (.within f a p d x)),some (.str w.w),some (.int n),some (.int e),some y6,none] h)->True:=fun _ _=>trivial;delta k8 q8 a5d;simp only [VS];left
  have st1:∀ s:Str,s=sw (w == .step)->N [some c,some (clD (.within f a p d x)),some (.str w.w),some (.int n),some (.int e),some (.str s),none] h:=fun s hs=>by
   subst hs;subst hN;left;simp only [clD,VV];refine ⟨c,C,f,p,F,n,(w == .step),rfl,hc,hF,?_⟩;subst hN
   cases hE:D7 C f n (w == .step) p with
   |none =>
    rw [hE] at q;left;simp only [oD,VV];exact q
   |some E =>
    obtain ⟨t,l1,l2,l3⟩:=last E hE;rw [hE] at q;have q:Q (oD clD ((if br (E.tab w) d e=true then some E else none).map fun E=>.within f a E.q e.toNat (x + E.cost))) h:=q;rw [l2] at q
    have ixl:ixD h (eD E) (.int (-1))=some (tD t):=by
     obtain ⟨ep,eq,ec,ek⟩:=E
     cases ek <;> exact l1
    left;simp only [oD,a0s,VV];subst hN;left
    have e5:((w.w) == (Str.ofString "in"))=false:=by
     cases w with
     |inn=>exact absurd rfl nw
     |step=>exact a3r
     |over=>exact a3Q
    have e6:PyData.strOk w.w=true:=by cases w <;> decide +kernel
    simp only [e5,e6,VV];subst hN;left;simp only [ixl,VV];refine ⟨t,_,_,d,e,rfl,l3,(wf.fn f F hF).2.2.2.1,o2,?_⟩;simp only [VV]
    by_cases b1:br t d e=true
    ·simp only [b1,b2l,b1T,VV];rw [if_pos b1] at q;have q:Q (.tup [.str "within",nD f,nD a,nD E.q,.int ((e.toNat:Nat):Int),.int ((x + E.cost:Nat):Int)]) h:=q;rw [Int.toNat_of_nonneg (he b1),Int.natCast_add] at q;exact q
    ·simp only [b1,VV];rw [if_neg b1] at q;subst hN;exact q
  cases w with
  |inn=>exact absurd rfl nw
  |step=>simp only [Mv.w,VV];exact st1 _ rfl
  |over=>simp only [Mv.w,VV];exact st1 _ rfl
theorem b4A{f:Addr}{fd:FuncData}(F:Fun K "_law_onward" "_law_onward" a6o f fd)(T:Txt P w K mg)(C_q7:Cal P w K mg base 1 "_law_edge_of" ["_law_chart_here","_law_f","_law_n","_law_sort","_law_p"] (spD K 5 a2M))(C_q1:Cal P w K mg base 1 "_law_brings" ["_law_table_here","_law_one","_law_other"] (spD K 3 Z1)):u7 P w K mg base CX0 2 f fd ["_law_chart_here","_law_one","_law_sort","_law_n","_law_e"] (spD K 5 a2t) :=
 z8 (k:=1) (b:=a5d) F sc_q13 (fun cdv A outer s H E hr=>by
  refine b9 ?_ ?_
  ·refine g7 (i:=5) ?_ ?_ ?_ ?_
   ·exact sc_q13.nd
   ·exact rfl
   ·exact Or.inl rfl
   exact c7 c6 (C9 (t7 (a7 (sv 2) (a7 f8 b8)))) (z7 J8 rfl T.b_int PyProof.Rows.boot_int (a7 (E5 (E9 hr.units) (sv 2) f8) b8))
  refine b9 ?_ ?_
  ·refine g7 (i:=6) sc_q13.nd rfl (Or.inl rfl) ?_;exact f7 C_q7 (hr.mono (by decide)) rfl (a7 (sv 0) (a7 (c7 c6 (sv 1) a9) (a7 (sv 3) (a7 (sv 5) (a7 (c7 c6 (sv 1) (g8 C8 (f9 n8 rfl T.b_len PySem.boot_len (a7 (sv 1) b8)) a9)) b8)))))
  refine b9 ?_ ?_
  ·exact p7 (e7 J1 (sv 6) l7) (d0 (g9 l7)) g6
  refine b9 ?_ ?_
  ·refine p7 (e7 (o7 hr.units) (sv 2) f8) ?_ g6;refine b9 ?_ (d0 (g9 l7));refine p7 ?_ ?_ g6
   ·exact o8 (f7 C_q1 (hr.mono (by decide)) rfl (a7 (c7 c6 (sv 6) a9) (a7 (c7 c6 (sv 1) a9) (a7 (sv 4) b8))))
   refine d0 ?_;refine g9 ?_;refine i8 (n:=5) ?_;refine a7 f8 ?_;refine a7 (c7 c6 (sv 6) a9) ?_;refine a7 a9 ?_;refine a7 (sv 4) ?_;refine a7 ?_ b8;exact g8 m7 (c7 c6 (sv 1) a9) (c7 c6 (sv 6) a9)
  refine b9 ?_ (d0 (g9 l7));refine p7 ?_ ?_ g6
  ·exact o8 (f7 C_q1 (hr.mono (by decide)) rfl (a7 (c7 c6 (sv 6) (a0v S7 a9)) (a7 (c7 c6 (sv 1) a9) (a7 (sv 4) b8))))
  refine d0 ?_;refine g9 ?_;refine i8 (n:=6) ?_;refine a7 f8 ?_;refine a7 (c7 c6 (sv 1) a9) ?_;refine a7 (c7 c6 (sv 1) a9) ?_;refine a7 (c7 c6 (sv 6) a9) ?_;refine a7 (sv 4) ?_;refine a7 ?_ b8;exact g8 m7 (c7 c6 (sv 1) a9) (c7 c6 (sv 6) a9)) b2B
def b5x:DS:=(d8 (j8 (dTk c8) (d7 4))
  (d8 (j8 (dOp M2 (dOp pIx (dOp pIx (b7 0) (dOp pIx (b7 2) (dC (.int 4)))) (dC (.int 0))) (dC (.int 1))) (d7 5))
  (d8 (O5 (F5 (a8 (dCB A0 (a8 (b7 1) c8)) c8)) (d7 6) (d8 (j8 (dOp pIx (b7 1) (b7 6)) (d7 7))
  (o9 (O7 (k7 (dOp (pEq false) (dOp pIx (b7 7) (dC (.int 0))) (dC (.str "within")))) (O7 (k7 (dOp (pEq false) (dOp pIx (b7 7) (dC (.int 1))) (dOp pIx (b7 2) (dC (.int 4))))) (O7 (k7 (dOp (pEq false) (dOp pIx (b7 7) (dC (.int 3))) (b7 5))) (k7 (dOp (pEq false) (dOp R7 (dOp a2i (dOp pIx (dOp pIx (b7 2) (dC (.int 5))) (b7 3)) (dOp pIx (b7 7) (dC (.int 2)))) (dC (.int 1))) (dC (.int 1))))))) (F2 (N6 (b7 4) (a8 (dV (G4 [none,some 6] (G2 (l8 a1V (a8 (dOp pIx (dOp pIx (b7 2) (dC (.int 6))) (dOp pIx (b7 7) (dC (.int 4)))) c8))) (d7 0) M7 (t9 (a8 (b7 1) (a8 (b7 0) c8))))) c8))) k6)))
  (l9 (b7 4)))))
theorem b1F{m e:Nat}(h:e ∈ v7 m):m.testBit e=true/\e < 6:=by
 unfold v7 at h;rw [List.mem_filter,List.mem_range] at h;exact ⟨h.2,h.1⟩
theorem a1E(m:Nat):(v7 m).length <= 6:=by
 unfold v7
 have:=List.length_filter_le (fun d=>m.testBit d) (List.range 6)
 simpa using this
def jD(x:Nat×Nat):D:=.tup [nD x.1,nD x.2]
def b8F(C:i9)(cs:List Clm)(g:Nat)(i bk:List Nat)(d:Nat)(x:Nat×Nat):Prop:=∃ b px y c',cs[x.1]?=some (.within g b px y c')/\(∃ G,C[g]?=some G/\px + 1=G.places)/\br i d b=true/\br bk y x.2=true
def b1R:DSp:=fun ds h Q=>∃ (c a:D) (C:i9) (cs:List Clm) (E:Edge) (F:Fn) (g d:Nat) (i bk o:List Nat),ds=[c,a,eD E,nD d]/\E.k = .call g i bk o/\ChD h c C/\WF C/\eOk C F E/\d < F.facts/\w6 h a=some (cs.map clD)/\cs.length <= 1000/\(∀ c ∈ cs,Q6 C c)/\∀ xs:List (Nat×Nat),xs.length <= 6000->(∀ x ∈ xs,b8F C cs g i bk d x)->Q (.lst (xs.map jD)) h
theorem b5j:∀ ds h Q,b1R ds h Q->k8 8 b5x ds h (Dr h Q):=by
 rintro ds h Q ⟨c,a,C,cs,E,F,g,d,i,bk,o,rfl,hk,hc,wf,⟨o1,o2,o3,o4,o5⟩,hd,ha,hl,ok,q⟩
 obtain ⟨ep,eq,ec,ek⟩:=E;dsimp only at hk;subst hk;obtain ⟨G,hG,t1,t2,t3⟩:=o5;obtain ⟨x,e1,e2⟩:=hc.fn hG;have pr:∀ o,Pre h (h ++ [o]):=fun o=>Pre.app _ _
 have e1':∀ o,ixD (h ++ [o]) c (nD g)=some (.tup [nD G.places,nD G.facts,x]):=fun o=>by
  obtain ⟨x',e1',_⟩:=(hc.mono (pr o)).fn hG;obtain ⟨fs,q1,q2,q3⟩:=hc;rw [r9 ((pr o).ls q1)];rw [r9 q1] at e1;exact e1
 delta k8 q8 b5x;simp only [VS];left;simp only [VV];subst hN;left;simp only [eD,e1',VV];subst hN;left;simp only [p6 ((pr _).ls ha),List.length_map,VV];refine ⟨by right,?_⟩;rw [v9,Int.toNat_natCast];refine w5 (fun p δ h'=>∃ (xs:List (Nat×Nat)) (x6 x7:Option D),δ=[some c,some a,some (eD ⟨ep,eq,ec,.call g i bk o⟩),some (nD d),some (.ref h.length),some (.int ((G.places:Int) - 1)),x6,x7]/\h'=h ++ [.lst (xs.map jD)]/\xs.length <= 6 * p.length/\∀ x ∈ xs,b8F C cs g i bk d x) ⟨[],none,none,rfl,rfl,by simp,fun x hx=>nomatch hx⟩ (fun _ _ _ _=>Src.ok_nil) ?_ ?_
 ·rintro p j r δ h' N1 e ⟨xs,x6,x7,rfl,rfl,hxl,hxs⟩ hN1
  obtain ⟨hjp,hj⟩:=G1 e;obtain ⟨one,ho⟩:∃ y,cs[j]?=some y:=⟨_,List.getElem?_eq_getElem hj⟩
  have okc:=ok one (List.mem_of_getElem? ho);have ax:atI (cs.map clD) (0 + (j:Int))=some (clD one):=by rw [Int.zero_add,atN,List.getElem?_map,ho];rfl
  have same:∀ x7:Option D,N1 [some c,some a,some (eD ⟨ep,eq,ec,.call g i bk o⟩),some (nD d),some (.ref h.length),some (.int ((G.places:Int) - 1)),some (.int (0 + (j:Int))),x7] (h ++ [.lst (xs.map jD)]):=fun x7=>hN1 _ _ ⟨xs,_,_,rfl,rfl,by rw [List.length_append];simp;omega,hxs⟩;simp only [VV];left;simp only [r9 ((pr _).ls ha),ax,VV];subst hN
  cases one with
  |«at» f p' d' x'=>simp only [clD,VV];exact same _
  |within f b px y c' =>
   obtain ⟨F',hF',u1,u2,u3⟩:=okc;have e3:((f:Int) == (g:Int))=decide (f=g):=by first | exact Q3 _ _ | exact O3 _ _ | exact Q7 _ _
   have e4:((px:Int) == (G.places:Int) - 1)=decide (px + 1=G.places):=by first | exact Q3 _ _ | exact O3 _ _ | exact Q7 _ _
   have ti:∀ o,ixD (h ++ [o]) (tD i) (nD d)=some (nD (i.getD d 0)):=fun o=>a0p _ t1 hd;simp only [clD,eD,e3,e4,VV]
   by_cases c1:f=g
   ·by_cases c2:px + 1=G.places
    ·simp only [c1,c2,ti,VV];refine ⟨by right,?_⟩;rw [show ((b:Nat):Int).toNat=b by right,b2g];subst c1;rw [hG] at hF';cases hF'
     refine b0H (fun z=>?_) (fun z=>?_)
     ·have tb:∀ o,ixD (h ++ [o]) (tD bk) (nD y)=some (nD (bk.getD y 0)):=fun o=>a0p _ t2 u3;simp only [t8,tb,VV];refine ⟨_,rfl,?_⟩;simp only [VV];refine ⟨by rw [List.length_map];have:=a1E (bk.getD y 0);omega,?_⟩;refine N0 (fun e=>jD (j,e)) Src.ok_nil none (fun e he K k=>?_) ?_
      ·simp only [VV];rw [Int.zero_add];exact k
      ·simp only [t8,A2,List.length_map,VV];have l6:=a1E (bk.getD y 0);refine ⟨by right,hN1 _ _ ⟨xs ++ (v7 (bk.getD y 0)).map (fun e=>(j,e)),_,_,rfl,?_,?_,fun x hx=>?_⟩⟩
       ·rw [List.map_append,List.map_map];rfl
       ·simp only [List.length_append,List.length_map,List.length_singleton];omega
       ·rcases List.mem_append.mp hx with w | w
        ·exact hxs x w
        ·obtain ⟨e',he',rfl⟩:=List.mem_map.mp w;refine ⟨b,px,y,c',ho,⟨G,hG,c2⟩,?_,?_⟩
         ·unfold br;rw [decide_eq_true (by right)];simpa using z
         ·unfold br;rw [decide_eq_true (by right)];simpa using (b1F he').1
     ·exact same _
    ·simp only [c1,c2,VV];exact same _
   ·simp only [c1,VV];exact same _
 ·rintro δ h' ⟨xs,x6,x7,rfl,rfl,hxl,hxs⟩
  subst hN;simp only [VV]
  have:=Dr.dropL (h:=h) (Q:=Q) (xs:=xs.map jD) (g1:=[]) (g2:=[]) (k:=h.length) (E6 (fun _=>rfl) xs) (by simp) (q xs (by simp at hxl;omega) hxs)
  simpa using this
theorem b8f{f:Addr}{fd:FuncData}(F:Fun K "_law_inner" "_law_inner" b5d f fd)(T:Txt P w K mg)(C_q8:Cal P w K mg base 1 "_law_facts" ["_law_mask"] (spD K 1 a1V)):u7 P w K mg base CX0 2 f fd ["_law_chart_here","_law_done","_law_edge_here","_law_d"] (spD K 4 b1R) :=
 L7 (k:=1) (b:=b5x) F sc_q9 (fun cdv A outer s H E hr=>by
  refine b9 ?_ ?_
  ·exact g7 (i:=4) sc_q9.nd rfl (Or.inl rfl) (S9 (t7 b8))
  refine b9 ?_ ?_
  ·refine g7 (i:=5) sc_q9.nd rfl (Or.inl rfl) ?_;exact g8 C8 (c7 c6 (c7 c6 (sv 0) (c7 c6 (sv 2) a9)) a9) a9
  refine b9 ?_ (d0 (g9 (sv 4)));refine J0 PassesOwn.never rfl ?_ (j9 (i:=6) sc_q9.nd rfl (Or.inr rfl)) ?_
  ·exact B0 rfl T.b_range (a7 (f9 n8 rfl T.b_len PySem.boot_len (a7 (sv 1) b8)) b8)
  refine b9 ?_ ?_
  ·exact g7 (i:=7) sc_q9.nd rfl (Or.inl rfl) (c7 c6 (sv 1) (sv 6))
  refine d0 ?_;refine p7 ?_ ?_ g6
  ·exact F1 (E3 (e7 (o7 hr.units) (c7 c6 (sv 7) a9) f8) (E3 (e7 (o7 hr.units) (c7 c6 (sv 7) a9) (c7 c6 (sv 2) a9)) (E3 (e7 (o7 hr.units) (c7 c6 (sv 7) a9) (sv 5)) (E1 (e7 (o7 hr.units) (g8 J5 (g8 S4 (c7 c6 (c7 c6 (sv 2) a9) (sv 3)) (c7 c6 (sv 7) a9)) a9) a9)))))
  refine d0 ?_;refine B5 ?_;refine J6 (n:=1) (sv 4) ?_;refine a7 ?_ b8;refine C9 ?_;exact F4 rfl (N':= ["_law_e","_law_j"]) (js:=[none,some 6]) ⟨rfl,by decide +kernel,rfl,rfl,rfl⟩ (B9 (f7 C_q8 (hr.mono (by decide)) rfl (a7 (c7 c6 (c7 c6 (sv 2) a9) (c7 c6 (sv 7) a9)) b8))) (fun s0 H0 fp=>⟨(j9 (i:=0) (show (["_law_e","_law_j"]:List Str).Nodup by decide +kernel) rfl (Or.inl rfl)),L9,(i8 (a7 (sv 1) (a7 (sv 0) b8)))⟩)) b5j
def a4a:DS:=(d8 (o9 (k7 (dOp (pEq false) (dOp pIx (b7 3) (dC (.int 0))) (dC (.str "begin")))) (d8 (o9 (O7 (k7 (D6 pLe Q4 (dC (.int 0)) (dOp pIx (b7 3) (dC (.int 1))) (dCB A0 (a8 (b7 0) c8)))) (k7 (D6 pLe Q4 (dC (.int 0)) (dOp pIx (b7 3) (dC (.int 2))) (dOp pIx (dOp pIx (b7 0) (dOp pIx (b7 3) (dC (.int 1)))) (dC (.int 1)))))) (l9 (t9 (a8 (dC (.str "within")) (a8 (dOp pIx (b7 3) (dC (.int 1))) (a8 (dOp pIx (b7 3) (dC (.int 2))) (a8 (dC (.int 0)) (a8 (dOp pIx (b7 3) (dC (.int 2))) (a8 (dC (.int 0)) c8)))))))) k6)
  (l9 (dC .non))) k6)
  (d8 (o9 (k7 (dOp (pEq false) (dOp pIx (b7 3) (dC (.int 0))) (dC (.str "start")))) (l9 (dIf (O7 (k7 (D6 pLe Q4 (dC (.int 0)) (dOp pIx (b7 3) (dC (.int 1))) (dC (.int 6)))) (k7 (dOp (pEq false) (dOp R7 (dOp a2i (b7 1) (dOp pIx (b7 3) (dC (.int 1)))) (dC (.int 1))) (dC (.int 1))))) (t9 (a8 (dC (.str "at")) (a8 (dC (.int 0)) (a8 (dC (.int 0)) (a8 (dOp pIx (b7 3) (dC (.int 1))) (a8 (dC (.int 0)) c8)))))) (dC .non))) k6)
  (d8 (o9 (M3 (k7 (D6 pLe Q4 (dC (.int 0)) (dOp pIx (b7 3) (dC (.int 1))) (dCB A0 (a8 (b7 2) c8))))) (l9 (dC .non)) k6)
  (d8 (j8 (dOp pIx (b7 2) (dOp pIx (b7 3) (dC (.int 1)))) (d7 4))
  (d8 (o9 (k7 (dOp (pEq true) (dOp pIx (b7 4) (dC (.int 0))) (dOp pIx (dV (a8 (dC (.str "within")) (a8 (dC (.str "at")) c8))) (dCB W5 (a8 (dOp (pIn false) (dOp pIx (b7 3) (dC (.int 0))) (t9 (a8 (dC (.str "in")) (a8 (dC (.str "along")) c8)))) c8))))) (l9 (dC .non)) k6)
  (d8 (o9 (k7 (dOp (pIn false) (dOp pIx (b7 3) (dC (.int 0))) (t9 (a8 (dC (.str "step")) (a8 (dC (.str "over")) (a8 (dC (.str "in")) c8)))))) (l9 (l8 a2t (a8 (b7 0) (a8 (b7 4) (a8 (dOp pIx (b7 3) (dC (.int 0))) (a8 (dOp pIx (b7 3) (dC (.int 2))) (a8 (dOp pIx (b7 3) (dC (.int 3))) c8))))))) k6)
  (d8 (j8 (dIf (k7 (dOp (pEq false) (dOp pIx (b7 3) (dC (.int 0))) (dC (.str "along")))) (dOp pIx (b7 3) (dC (.int 2))) (dOp pIx (b7 3) (dC (.int 3)))) (d7 5))
  (d8 (o9 (dOr (M3 (k7 (D6 pLe Q4 (dC (.int 0)) (b7 5) (dCB A0 (a8 (b7 2) c8))))) (k7 (dOp (pEq true) (dOp pIx (dOp pIx (b7 2) (b7 5)) (dC (.int 0))) (dC (.str "within"))))) (l9 (dC .non)) k6)
  (d8 (o9 (k7 (dOp (pEq false) (dOp pIx (b7 3) (dC (.int 0))) (dC (.str "short")))) (l9 (l8 a4o (a8 (b7 0) (a8 (b7 4) (a8 (dOp pIx (b7 3) (dC (.int 2))) (a8 (dOp pIx (b7 2) (b7 5)) (a8 (dOp pIx (b7 3) (dC (.int 4))) c8))))))) k6)
  (d8 (o9 (dOr (k7 (dOp (pEq true) (dOp pIx (b7 4) (dC (.int 2))) (dC (.int 0)))) (dOr (k7 (dOp (pEq true) (dOp pIx (dOp pIx (b7 2) (b7 5)) (dC (.int 1))) (dOp pIx (b7 4) (dC (.int 1))))) (k7 (dOp (pEq true) (dOp pIx (dOp pIx (b7 2) (b7 5)) (dC (.int 2))) (dOp pIx (b7 4) (dC (.int 3))))))) (l9 (dC .non)) k6)
  (l9 (t9 (a8 (dC (.str "at")) (a8 (dOp pIx (b7 4) (dC (.int 1))) (a8 (dOp pIx (dOp pIx (b7 2) (b7 5)) (dC (.int 3))) (a8 (dOp pIx (dOp pIx (b7 2) (b7 5)) (dC (.int 4))) (a8 (dOp u0 (dOp pIx (b7 4) (dC (.int 4))) (dOp pIx (dOp pIx (b7 2) (b7 5)) (dC (.int 5)))) c8)))))))))))))))))
def b1p:DSp:=fun ds h Q=>∃ (c a:D) (C:i9) (cs:List Clm) (st:Nat) (F0:Fn) (r:Row),ds=[c,nD st,a,rD r]/\ChD h c C/\WF C/\w6 h a=some (cs.map clD)/\(∀ c ∈ cs,Q6 C c)/\C[0]?=some F0/\st < 2 ^ F0.facts/\Q (oD clD (i6 C st cs r)) h
theorem G7(cs:List Clm)(k:Int):(∃ c,i7 cs k=some c/\0 <= k/\k < cs.length/\atI (cs.map clD) k=some (clD c))\/(i7 cs k=none/\¬ (0 <= k/\k < cs.length)):=by
 unfold i7
 by_cases h0:0 <= k
 ·by_cases h1:k < cs.length
  ·have hl:k.toNat < cs.length:=by right
   refine .inl ⟨cs[k.toNat],by rw [if_pos h0,List.getElem?_eq_getElem hl],h0,h1,?_⟩;rw [T6 h0,List.getElem?_map,List.getElem?_eq_getElem hl];rfl
  ·exact .inr ⟨by rw [if_pos h0,List.getElem?_eq_none (by right)],fun z=>h1 z.2⟩
 ·exact .inr ⟨if_neg h0,fun z=>h0 z.1⟩
theorem b6e:∀ ds h Q,b1p ds h Q->k8 6 a4a ds h Q:=by
 rintro ds h Q ⟨c,a,C,cs,st,F0,r,rfl,hc,wf,ha,ok,hF0,hst,q⟩
 have nn:∀ (k:Int) {A B:Prop},¬ (0 <= k/\k < (cs.length:Int))->A->(if decide (0 <= k)=true then (if (!decide (k < (cs.length:Int)))=true then A else B) else A):=fun k A B hk kk=>by
  by_cases h0:0 <= k
  ·by_cases h1:k < (cs.length:Int)
   ·exact absurd ⟨h0,h1⟩ hk
   ·simp only [h0,h1,decide_true,decide_false,if_true,Bool.not_false];exact kk
  ·simp only [h0,decide_false,Bool.false_eq_true,if_false];exact kk
 cases r with
 |begin f d =>
  delta k8 q8 a4a;simp only [VS];left;simp only [rD,VV];subst hN;left;have non:i6 C st cs (.begin f d)=none->N [some c,some (nD st),some a,some (D.tup [D.str (Str.ofString "begin"),D.int f,D.int d]),none,none] h:=fun z=>by subst hN;rw [z] at q;exact q
  have eq:i6 C st cs (.begin f d)=(if 0 <= f/\0 <= d then (C[f.toNat]?).bind fun F=>if d < F.facts then some (Clm.within f.toNat d.toNat 0 d.toNat 0) else none else none):=rfl
  by_cases h0:0 <= f
  ·by_cases h1:f < C.length
   ·have hl:f.toNat < C.length:=by right
    obtain ⟨F,hF⟩:∃ E,C[f.toNat]?=some E:=⟨_,List.getElem?_eq_getElem hl⟩
    obtain ⟨x,e1,e2⟩:=hc.fn hF
    have e1:ixD h c (.int f)=some (.tup [nD F.places,nD F.facts,x]):=by
     rw [show nD f.toNat = .int f from congrArg D.int (by right)] at e1;exact e1
    by_cases h2:0 <= d
    ·by_cases h3:d < F.facts
     ·simp only [hc.len,h0,h1,e1,h2,h3,VV];rw [eq,if_pos ⟨h0,h2⟩,hF] at q;have q:Q (oD clD (if d < F.facts then some (Clm.within f.toNat d.toNat 0 d.toNat 0) else none)) h:=q;rw [if_pos h3] at q;have q:Q (.tup [.str "within",.int ((f.toNat:Nat):Int),.int ((d.toNat:Nat):Int),nD 0,.int ((d.toNat:Nat):Int),nD 0]) h:=q;rw [Int.toNat_of_nonneg h0,Int.toNat_of_nonneg h2] at q;exact q
     ·simp only [hc.len,h0,h1,e1,h2,h3,VV];refine non ?_;rw [eq,if_pos ⟨h0,h2⟩,hF];exact if_neg h3
    ·simp only [hc.len,h0,h1,e1,h2,VV];exact non (if_neg (fun z=>h2 z.2))
   ·simp only [hc.len,h0,h1,VV];refine non ?_;rw [eq,List.getElem?_eq_none (by right)];split <;> rfl
  ·simp only [h0,VV];exact non (if_neg (fun z=>h0 z.1))
 |start d =>
  delta k8 q8 a4a;simp only [VS];left;simp only [rD,VV];subst hN;left;simp only [VV]
  have eq:i6 C st cs (.start d)=if 0 <= d then (if d < F0.facts/\st.testBit d.toNat=true then some (.at 0 0 d.toNat 0) else none) else none:=by
   show (if 0 <= d then (C[0]?).bind fun F=>if d < F.facts/\st.testBit d.toNat=true then some (Clm.at 0 0 d.toNat 0) else none else none)=_;rw [hF0];rfl
  rw [eq] at q;have f6:=(wf.fn 0 F0 hF0).2.2.2.1
  by_cases h0:0 <= d
  ·rw [if_pos h0] at q
   by_cases h1:d < 6
   ·simp only [h0,h1,VV];refine ⟨trivial,?_⟩
    have:=b2g st d.toNat
    rw [this];refine b0H (fun z=>?_) (fun z=>?_)
    ·have hd:d < F0.facts:=by
      rcases Nat.lt_or_ge d.toNat F0.facts with y | y
      ·omega
      ·rw [Nat.testBit_lt_two_pow (Nat.lt_of_lt_of_le hst (Nat.pow_le_pow_right (by decide) y))] at z;cases z
     rw [if_pos ⟨hd,z⟩] at q;have q:Q (.tup [.str "at",nD 0,nD 0,.int ((d.toNat:Nat):Int),nD 0]) h:=q;rw [Int.toNat_of_nonneg h0] at q;exact q
    ·rw [if_neg (fun y=>by rw [z] at y;exact Bool.false_ne_true y.2)] at q;exact q
   ·simp only [h0,h1,VV];rw [if_neg (fun y=>by right)] at q;exact q
  ·rw [if_neg h0] at q;simp only [h0,VV];exact q
 |mv w k n e =>
  have eq:i6 C st cs (.mv w k n e)=(i7 cs k).bind fun one=>a1D C w one n e:=by
   cases w with
   |inn =>
    show (match i7 cs k with | some (.at f p d c)=>_ | _=>none)=_
    cases i7 cs k with
    |none=>rfl
    |some x=>cases x <;> rfl
   |_ =>
    show (match i7 cs k with | some (.within f a p d c)=>_ | _=>none)=_
    cases i7 cs k with
    |none=>rfl
    |some x=>cases x <;> rfl
  rw [eq] at q;have sb:(w.w == Str.ofString "begin")=false:=by cases w with | step=>exact a0J | over=>exact a0A | inn=>exact a2R
  have ss:(w.w == Str.ofString "start")=false:=by cases w with | step=>exact a0C | over=>exact a0H | inn=>exact a2H
  have sk:PyData.strOk w.w=true:=by cases w with | step=>exact Z3 | over=>exact a4u | inn=>exact b3n
  delta k8 q8 a4a;simp only [VS];left;simp only [rD,sb,sk,VV];subst hN;left;simp only [ss,sk,VV];subst hN;left
  rcases G7 cs k with ⟨one,ho,h0,h1,hx⟩ | ⟨ho,hk⟩
  ·rw [ho] at q;have q:Q (oD clD (a1D C w one n e)) h:=q;have okc:=B2 ok ho;have fin:(w = .inn ↔ ∃ f p d x,one = .at f p d x)->a2t [c,clD one,.str w.w,.int n,.int e] h Q:=fun hw=>⟨c,C,w,one,n,e,rfl,hc,wf,okc,hw,q⟩
   simp only [p6 ha,List.length_map,h0,h1,VV];subst hN;left;simp only [r9 ha,hx,VV];subst hN;left
   cases w <;> cases one
   all_goals
    simp only [Mv.w,clD,R6,Q9,Q8,a0z,a0G,VV]
    try refine ⟨rfl,?_⟩
    try simp only [VV]
   case step.within =>
    subst hN;left;simp only [clD,R6,Q9,Q8,a0z,a0G,VV];refine ⟨rfl,fin ⟨(fun z=>nomatch z),(fun ⟨_,_,_,_,z⟩=>nomatch z)⟩⟩
   case over.within =>
    subst hN;left;simp only [clD,R6,Q9,Q8,a0z,a0G,VV];refine ⟨rfl,fin ⟨(fun z=>nomatch z),(fun ⟨_,_,_,_,z⟩=>nomatch z)⟩⟩
   case inn.at =>
    subst hN;left;simp only [clD,R6,Q9,Q8,a0z,a0G,VV];refine ⟨rfl,fin ⟨fun _=>⟨_,_,_,_,rfl⟩,fun _=>rfl⟩⟩
   all_goals exact q
  ·rw [ho] at q;simp only [p6 ha,List.length_map,VV];exact nn k hk q
 |short k n j e =>
  delta k8 q8 a4a;simp only [VS];left;simp only [rD,VV];subst hN;left;simp only [VV];subst hN;left;have eq:i6 C st cs (.short k n j e)=match i7 cs k,i7 cs j with | some (.within f a p d c),some (.within g b x y c')=>a3l C f a p d c g b x y c' n e | _,_=>none:=rfl
  rcases G7 cs k with ⟨one,ho,h0,h1,hx⟩ | ⟨ho,hk⟩
  ·simp only [p6 ha,List.length_map,h0,h1,VV];have okc:=B2 ok ho;subst hN;left;simp only [r9 ha,hx,VV];subst hN;left
   cases one with
   |«at» f p d x =>
    simp only [clD,R6,Q9,Q8,a0z,a0G,VV];refine ⟨rfl,?_⟩;rw [eq,ho] at q;exact q
   |within f a p d x =>
    simp only [clD,R6,Q9,Q8,a0z,a0G,VV];refine ⟨rfl,?_⟩;subst hN;left;simp only [R6,Q9,Q8,a0z,a0G,VV];refine ⟨rfl,?_⟩;subst hN;left;simp only [VV];subst hN;left
    rcases G7 cs j with ⟨two,ho2,h2,h3,hx2⟩ | ⟨ho2,hk2⟩
    ·have okc2:=B2 ok ho2
     cases two with
     |«at» f p d x =>
      simp only [p6 ha,List.length_map,h2,h3,r9 ha,hx2,clD,VV];rw [eq,ho,ho2] at q;exact q
     |within g b px y x' =>
      simp only [p6 ha,List.length_map,h2,h3,r9 ha,hx2,clD,VV];subst hN;left;simp only [r9 ha,hx2,clD,VV];refine ⟨c,C,f,a,p,d,x,g,b,px,y,x',n,e,rfl,hc,wf,okc,okc2,?_⟩;rw [eq,ho,ho2] at q;exact q
    ·simp only [p6 ha,List.length_map,VV];rw [eq,ho,ho2] at q;have q:Q .non h:=q
     by_cases g0:0 <= j
     ·by_cases g1:j < (cs.length:Int)
      ·exact absurd ⟨g0,g1⟩ hk2
      ·simp only [g0,g1,VV];exact q
     ·simp only [g0,VV];exact q
  ·simp only [p6 ha,List.length_map,VV];rw [eq,ho] at q;exact nn k hk q
 |along k j =>
  delta k8 q8 a4a;simp only [VS];left;simp only [rD,VV];subst hN;left;simp only [VV];subst hN;left;have eq:i6 C st cs (.along k j)=match i7 cs k,i7 cs j with | some (.at f p a c),some (.within g b q d c')=>if p=0/\g=f/\b=a then some (Clm.at f q d (c + c')) else none | _,_=>none:=rfl
  rcases G7 cs k with ⟨one,ho,h0,h1,hx⟩ | ⟨ho,hk⟩
  ·simp only [p6 ha,List.length_map,h0,h1,VV];subst hN;left;simp only [r9 ha,hx,VV];subst hN;left
   cases one with
   |within f a p d x =>
    simp only [clD,R6,Q9,Q8,a0z,a0G,VV];refine ⟨rfl,?_⟩;rw [eq,ho] at q;exact q
   |«at» f p d x =>
    simp only [clD,R6,Q9,Q8,a0z,a0G,VV];refine ⟨rfl,?_⟩;subst hN;left;simp only [R6,Q9,Q8,a0z,a0G,VV];refine ⟨rfl,?_⟩;subst hN;left;simp only [VV];subst hN;left
    rcases G7 cs j with ⟨two,ho2,h2,h3,hx2⟩ | ⟨ho2,hk2⟩
    ·cases two with
     |«at» f p d x =>
      simp only [p6 ha,List.length_map,h2,h3,r9 ha,hx2,clD,VV];rw [eq,ho,ho2] at q;exact q
     |within g b px y x' =>
      simp only [p6 ha,List.length_map,h2,h3,r9 ha,hx2,clD,VV];subst hN;left;simp only [VV];subst hN;left;rw [eq,ho,ho2] at q;have q:Q (oD clD (if p=0/\g=f/\b=d then some (.at f px y (x + x')) else none)) h:=q;have e1:((p:Int) == 0)=decide (p=0):=by rw [Bool.eq_iff_iff];simp
      have e2:((g:Int) == (f:Int))=decide (g=f):=by first | exact Q3 _ _ | exact O3 _ _ | exact Q7 _ _
      have e3:((b:Int) == (d:Int))=decide (b=d):=by first | exact Q3 _ _ | exact O3 _ _ | exact Q7 _ _
      simp only [r9 ha,hx2,clD,e1,e2,e3,VV]
      by_cases c1:p=0
      ·by_cases c2:g=f
       ·by_cases c3:b=d
        ·rw [if_pos ⟨c1,c2,c3⟩] at q;simp only [c1,c2,c3,VV];subst hN;simp only [r9 ha,hx2,clD,VV];have q:Q (.tup [.str "at",nD f,nD px,nD y,.int ((x + x':Nat):Int)]) h:=q;rw [Int.natCast_add] at q;exact q
        ·rw [if_neg (fun z=>c3 z.2.2)] at q;simp only [c1,c2,c3,VV];exact q
       ·rw [if_neg (fun z=>c2 z.2.1)] at q;simp only [c1,c2,VV];exact q
      ·rw [if_neg (fun z=>c1 z.1)] at q;simp only [c1,VV];exact q
    ·simp only [p6 ha,List.length_map,VV];rw [eq,ho,ho2] at q;have q:Q .non h:=q
     by_cases g0:0 <= j
     ·by_cases g1:j < (cs.length:Int)
      ·exact absurd ⟨g0,g1⟩ hk2
      ·simp only [g0,g1,VV];exact q
     ·simp only [g0,VV];exact q
  ·simp only [p6 ha,List.length_map,VV];rw [eq,ho] at q;exact nn k hk q
theorem b6N{f:Addr}{fd:FuncData}(F:Fun K "_law_claim" "_law_claim" b5o f fd)(T:Txt P w K mg)(C_q13:Cal P w K mg base 2 "_law_onward" ["_law_chart_here","_law_one","_law_sort","_law_n","_law_e"] (spD K 5 a2t))(C_q17:Cal P w K mg base 2 "_law_short" ["_law_chart_here","_law_one","_law_n","_law_other","_law_e"] (spD K 5 a4o)):u7 P w K mg base CX0 3 f fd ["_law_chart_here","_law_start","_law_done","_law_row"] (spD K 4 b1p) :=
 z8 (k:=2) (b:=a4a) F sc_q5 (fun cdv A outer s H E hr=>by
  refine b9 ?_ ?_
  ·refine p7 (e7 (o7 hr.units) (c7 c6 (sv 3) a9) f8) ?_ g6;refine b9 ?_ (d0 (g9 l7));refine p7 ?_ ?_ g6
   ·exact F1 (E3 (B3 K5 F8 a9 (c7 c6 (sv 3) a9) (f9 n8 rfl T.b_len PySem.boot_len (a7 (sv 0) b8))) (E1 (B3 K5 F8 a9 (c7 c6 (sv 3) a9) (c7 c6 (c7 c6 (sv 0) (c7 c6 (sv 3) a9)) a9))))
   refine d0 ?_;refine g9 ?_;refine i8 (n:=6) ?_;refine a7 f8 ?_;refine a7 (c7 c6 (sv 3) a9) ?_;refine a7 (c7 c6 (sv 3) a9) ?_;exact a7 a9 (a7 (c7 c6 (sv 3) a9) (a7 a9 b8))
  refine b9 ?_ ?_
  ·refine p7 (e7 (o7 hr.units) (c7 c6 (sv 3) a9) f8) ?_ g6;refine d0 ?_;refine g9 ?_;exact R8 (F1 (E3 (B3 K5 F8 a9 (c7 c6 (sv 3) a9) a9) (E1 (e7 (o7 hr.units) (g8 J5 (g8 S4 (sv 1) (c7 c6 (sv 3) a9)) a9) a9)))) (i8 (a7 f8 (a7 a9 (a7 a9 (a7 (c7 c6 (sv 3) a9) (a7 a9 b8)))))) l7
  refine b9 ?_ ?_
  ·refine p7 ?_ (d0 (g9 l7)) g6;exact A9 (B3 K5 F8 a9 (c7 c6 (sv 3) a9) (f9 n8 rfl T.b_len PySem.boot_len (a7 (sv 2) b8)))
  refine b9 ?_ ?_
  ·exact g7 (i:=4) sc_q5.nd rfl (Or.inl rfl) (c7 c6 (sv 2) (c7 c6 (sv 3) a9))
  refine b9 ?_ ?_
  ·refine p7 ?_ (d0 (g9 l7)) g6;exact e7 (E9 hr.units) (c7 c6 (sv 4) a9) (c7 c6 (C9 (t7 (a7 f8 (a7 f8 b8)))) (z7 J8 rfl T.b_int PyProof.Rows.boot_int (a7 (E5 a2w (c7 c6 (sv 3) a9) (i8 (a7 f8 (a7 f8 b8))) rfl) b8)))
  refine b9 ?_ ?_
  ·refine p7 ?_ ?_ g6
   ·exact e7 a2w (c7 c6 (sv 3) a9) (i8 (a7 f8 (a7 f8 (a7 f8 b8)))) rfl
   refine d0 ?_;refine g9 ?_;exact f7 C_q13 (hr.mono (by decide)) rfl (a7 (sv 0) (a7 (sv 4) (a7 (c7 c6 (sv 3) a9) (a7 (c7 c6 (sv 3) a9) (a7 (c7 c6 (sv 3) a9) b8)))))
  refine b9 ?_ ?_
  ·refine g7 (i:=5) sc_q5.nd rfl (Or.inl rfl) ?_;exact R8 (e7 (o7 hr.units) (c7 c6 (sv 3) a9) f8) (c7 c6 (sv 3) a9) (c7 c6 (sv 3) a9)
  refine b9 ?_ ?_
  ·refine p7 ?_ (d0 (g9 l7)) g6;exact F1 (B8 (A9 (B3 K5 F8 a9 (sv 5) (f9 n8 rfl T.b_len PySem.boot_len (a7 (sv 2) b8)))) (B7 (e7 (E9 hr.units) (c7 c6 (c7 c6 (sv 2) (sv 5)) a9) f8)))
  refine b9 ?_ ?_
  ·refine p7 (e7 (o7 hr.units) (c7 c6 (sv 3) a9) f8) ?_ g6;refine d0 ?_;refine g9 ?_;exact f7 C_q17 (hr.mono (by decide)) rfl (a7 (sv 0) (a7 (sv 4) (a7 (c7 c6 (sv 3) a9) (a7 (c7 c6 (sv 2) (sv 5)) (a7 (c7 c6 (sv 3) a9) b8)))))
  refine b9 ?_ ?_
  ·refine p7 ?_ (d0 (g9 l7)) g6;exact F1 (B8 (e7 (E9 hr.units) (c7 c6 (sv 4) a9) a9) (B8 (e7 (E9 hr.units) (c7 c6 (c7 c6 (sv 2) (sv 5)) a9) (c7 c6 (sv 4) a9)) (B7 (e7 (E9 hr.units) (c7 c6 (c7 c6 (sv 2) (sv 5)) a9) (c7 c6 (sv 4) a9)))))
  refine d0 ?_;refine g9 ?_;refine i8 (n:=5) ?_;refine a7 f8 ?_;refine a7 (c7 c6 (sv 4) a9) ?_;refine a7 (c7 c6 (c7 c6 (sv 2) (sv 5)) a9) ?_;refine a7 (c7 c6 (c7 c6 (sv 2) (sv 5)) a9) ?_;refine a7 ?_ b8;exact g8 m7 (c7 c6 (sv 4) a9) (c7 c6 (c7 c6 (sv 2) (sv 5)) a9)) b6e
def a4d:DS:=(d8 (j8 (dOp pIx (b7 1) (b7 2)) (d7 3))
  (d8 (j8 (dOp pIx (b7 3) (dC (.int 1))) (d7 4))
  (d8 (j8 (dOp pIx (b7 3) (dOp M2 (dCB A0 (a8 (b7 3) c8)) (dC (.int 3)))) (d7 5))
  (d8 (j8 (dOp pIx (b7 3) (dOp M2 (dCB A0 (a8 (b7 3) c8)) (dC (.int 2)))) (d7 6))
  (d8 (j8 (dTk c8) (d7 7))
  (d8 (o9 (O7 (k7 (dOp (pEq false) (dOp pIx (b7 3) (dC (.int 0))) (dC (.str "at")))) (k7 (dOp (pEq false) (b7 5) (dC (.int 0))))) (d8 (j8 (dV (G4 [none,some 1,some 4,some 6] (F5 (a8 (dCB A0 (a8 (b7 1) c8)) c8)) (d7 0) (O7 (k7 (dOp (pEq false) (dOp pIx (dOp pIx (b7 1) (b7 0)) (dC (.int 0))) (dC (.str "within")))) (k7 (dOp (pEq false) (dSl (dOp pIx (b7 1) (b7 0)) (a0d (dC (.int 1))) (a0d (dC (.int 3)))) (t9 (a8 (b7 2) (a8 (b7 3) c8)))))) (b7 0))) (d7 8))
  (F2 (N6 (b7 7) (a8 (dV (G4 [none,some 2] (G2 (b7 8)) (d7 0) M7 (t9 (a8 (dC (.str "along")) (a8 (b7 1) (a8 (b7 0) c8)))))) c8)))) k6)
  (d8 (O5 (a7R (a8 (dOp pIx (dOp pIx (b7 0) (b7 4)) (dC (.int 2))) c8)) (a2c 2 (A8 (d7 9) (A8 (d7 10) U4))) (o9 (O7 (k7 (dOp (pEq false) (dOp pIx (b7 10) (dC (.int 1))) (b7 5))) (k7 (dOp (pEq false) (dOp pIx (b7 3) (dC (.int 0))) (dC (.str "at"))))) (o9 (k7 (dOp (pEq false) (dOp pIx (b7 10) (dC (.int 0))) (dC (.str "call")))) (F2 (N6 (b7 7) (a8 (dV (G4 [none,some 2,some 9] (G2 (l8 a1V (a8 (dOp pIx (dOp pIx (b7 10) (dC (.int 5))) (b7 6)) c8))) (d7 0) M7 (t9 (a8 (dC (.str "in")) (a8 (b7 1) (a8 (b7 2) (a8 (b7 0) c8))))))) c8))) k6) (o9 (k7 (dOp (pEq false) (dOp pIx (b7 10) (dC (.int 1))) (b7 5))) (d8 (j8 (dOp pIx (dV (a8 (dC (.str "step")) (a8 (dC (.str "over")) c8))) (dCB W5 (a8 (dOp (pEq false) (dOp pIx (b7 10) (dC (.int 0))) (dC (.str "call"))) c8))) (d7 11))
  (d8 (F2 (N6 (b7 7) (a8 (dV (G4 [none,some 11,some 2,some 9] (G2 (l8 a1V (a8 (dOp pIx (dOp pIx (b7 10) (dUn a2S (dC (.int 1)))) (b7 6)) c8))) (d7 0) M7 (t9 (a8 (b7 1) (a8 (b7 2) (a8 (b7 3) (a8 (b7 0) c8))))))) c8)))
  (o9 (k7 (dOp (pEq false) (dOp pIx (b7 10) (dC (.int 0))) (dC (.str "call")))) (F2 (N6 (b7 7) (a8 (dV (G4 [none,none,some 2,some 9] (G2 (l8 b1R (a8 (b7 0) (a8 (b7 1) (a8 (b7 10) (a8 (b7 6) c8)))))) (a2c 2 (A8 (d7 0) (A8 (d7 1) U4))) M7 (t9 (a8 (dC (.str "short")) (a8 (b7 2) (a8 (b7 3) (a8 (b7 0) (a8 (b7 1) c8)))))))) c8))) k6))) k6)))
  (l9 (b7 7)))))))))
theorem b1e{τ:Type}(g:τ->D)(ns:List τ)(lo hi:Option Int):∃ ms:List τ,U3 (ns.map g) lo hi=ms.map g/\ms.length <= ns.length/\∀ x ∈ ms,x ∈ ns:=by
 refine ⟨(ns.drop (HT.sIx ns.length 0 lo)).take (HT.sIx ns.length ns.length hi - HT.sIx ns.length 0 lo),?_,?_,fun x hx=>List.mem_of_mem_drop (List.mem_of_mem_take hx)⟩
 ·unfold U3;rw [List.length_map,<- List.map_drop,<- List.map_take]
 ·rw [List.length_take,List.length_drop];omega
def R9(C:i9)(st:Nat)(cs:List Clm)(r:Row):Prop:=∃ c,i6 C st cs r=some c
def a4n:DSp:=fun ds h Q=>∃ (c a:D) (C:i9) (cs:List Clm) (st k:Nat) (one:Clm),ds=[c,a,nD k]/\ChD h c C/\WF C/\w6 h a=some (cs.map clD)/\cs.length <= 1000/\(∀ c ∈ cs,Q6 C c)/\cs[k]?=some one/\∀ rs:List Row,rs.length <= 2000000->(∀ r ∈ rs,R9 C st cs r)->Q (.lst (rs.map rD)) h
theorem a2I{h:Hh}{d:D}{xs:List D}(e:w6 h d=some xs):∃ w,(∀ h',Pre h h'->H9 h' d=some ⟨xs,w⟩)/\∀ ys h',Pre h h'->(Src.mk ys w).ok h':=by
 obtain ⟨w,e1,e2,e3⟩:=a3g e;refine ⟨w,fun h' p=>?_,fun ys h' p z hz=>p _ _ (e2 z hz)⟩;obtain ⟨w',e4,e5,e6⟩:=a3g (p.ls e);rw [e4]
 cases d with
 |lst ys=>cases e1;cases e4;rfl
 |scr ys=>cases e1;cases e4;rfl
 |ref i =>
  have e:(match h[i]? with | some (.lst xs)=>some xs | _=>none)=some xs:=e
  cases q:h[i]? with
  |none=>rw [q] at e;cases e
  |some o =>
   cases o with
   |lst ys =>
    rw [q] at e;cases e;rw [S5 q] at e1;rw [S5 (p _ _ q)] at e4
    cases e1;cases e4;rfl
   |dT _=>rw [q] at e;cases e
   |dK _=>rw [q] at e;cases e
   |ins _ _=>rw [q] at e;cases e
 |non=>cases e
 |bl _=>cases e
 |int _=>cases e
 |str _=>cases e
 |tup _=>cases e
 |exc _ _=>cases e
def alB(cs:List Clm)(f d j:Nat):Bool:=match cs[j]? with | some (.within g b _ _ _)=>decide (g=f) && decide (b=d) | _=>false
theorem b9j(a b c d:Int):PyData.eqv (.tuple [.int a,.int b]) (.tuple [.int c,.int d])=(a == c && b == d):=by
 simp [PyData.eqv,PyData.eqvAll]
theorem b1f:∀ ds h Q,a4n ds h Q->k8 12 a4d ds h (Dr h Q):=by
 rintro ds h Q ⟨c,a,C,cs,st,k,one,rfl,hc,wf,ha,hcl,ok,ho,q⟩
 have ax:atI (cs.map clD) (k:Int)=some (clD one):=by rw [atN,List.getElem?_map,ho];rfl
 have okc:=ok one (List.mem_of_getElem? ho);have pr:∀ o,Pre h (h ++ [o]):=fun o=>Pre.app _ _;have ak:=J7 ho
 have fin:∀ rs:List Row,rs.length <= 2000000->(∀ r ∈ rs,R9 C st cs r)->Dr h Q (.ref h.length) (h ++ [.lst (rs.map rD)]):=fun rs h1 h2=>by
  have:=Dr.dropL (h:=h) (Q:=Q) (xs:=rs.map rD) (g1:=[]) (g2:=[]) (k:=h.length) (E6 a6U rs) (by simp) (q rs h1 h2)
  simpa using this
 cases one with
 |within f a0 p d x =>
  obtain ⟨F,hF,u1,u2,u3⟩:=okc;obtain ⟨_,_,_,_,f100,eok⟩:=wf.fn f F hF;obtain ⟨y,e1,e2⟩:=hc.fn hF;obtain ⟨w,s1,s2⟩:=a2I e2
  have e1':∀ o,ixD (h ++ [o]) c (nD f)=some (.tup [nD F.places,nD F.facts,y]):=fun o=>by
   obtain ⟨fs,q1,q2,q3⟩:=hc;rw [r9 ((pr o).ls q1)];rw [r9 q1] at e1;exact e1
  delta k8 q8 a4d;simp only [VS];left;simp only [r9 ha,ax,VV];subst hN;left;simp only [clD,VV];subst hN;left;simp only [VV];have i3:atI [D.str "within",nD f,nD a0,nD p,nD d,nD x] (((0 + 1 + 1 + 1 + 1 + 1 + 1:Nat):Int) - 3)=some (nD p):=rfl;have i2:atI [D.str "within",nD f,nD a0,nD p,nD d,nD x] (((0 + 1 + 1 + 1 + 1 + 1 + 1:Nat):Int) - 2)=some (nD d):=rfl;simp only [i3,VV];subst hN;left;simp only [i2,VV];subst hN;left;simp only [VV];subst hN;left;simp only [VV];subst hN;left;simp only [e1',s1 _ (pr _),VV];rw [a0Z];refine w5 (fun p' δ h'=>∃ (rs:List Row) (x9 x10 x11:Option D),δ=[some c,some a,some (nD k),some (clD (.within f a0 p d x)),some (nD f),some (nD p),some (nD d),some (.ref h.length),none,x9,x10,x11]/\h'=h ++ [.lst (rs.map rD)]/\rs.length <= 7000 * p'.length/\∀ r ∈ rs,R9 C st cs r) ⟨[],none,none,none,rfl,rfl,by simp,fun x hx=>nomatch hx⟩ ?_ ?_ ?_
  ·rintro p' δ h' ⟨rs,x9,x10,x11,rfl,rfl,_⟩
   exact s2 _ _ (pr _)
  ·rintro p' ⟨E,n⟩ r' δ h' N1 e ⟨rs,x9,x10,x11,rfl,rfl,hrl,hrs⟩ hN1
   have hE:F.edges[n]?=some E:=by
    have:F.edges.zipIdx[p'.length]?=some (E,n):=by rw [e];simp
    rw [List.getElem?_zipIdx] at this
    cases z:F.edges[p'.length]? with
    |none=>rw [z] at this;cases this
    |some E'=>rw [z] at this;cases this;simpa using z
   have oe:=eok E (List.mem_of_getElem? hE);have same:∀ x9 x10 x11:Option D,N1 [some c,some a,some (nD k),some (clD (.within f a0 p d x)),some (nD f),some (nD p),some (nD d),some (.ref h.length),none,x9,x10,x11] (h ++ [.lst (rs.map rD)]):=fun x9 x10 x11=>hN1 _ _ ⟨rs,_,_,_,rfl,rfl,by rw [List.length_append];simp;omega,hrs⟩
   have rsl:rs.length <= 800000:=by
    have:p'.length < F.edges.zipIdx.length:=by rw [e];simp
    rw [List.length_zipIdx] at this;omega
   have ep:∀ h',ixD h' (eD E) (.int 1)=some (nD E.p):=fun h'=>b5g h' E;have e3:((E.p:Int) == (p:Int))=decide (E.p=p):=by first | exact Q3 _ _ | exact O3 _ _ | exact Q7 _ _
   simp only [VV0];refine ⟨trivial,?_⟩
   (try dsimp only);refine M4 fun A1 B1 hA hB=>?_
   by_cases c1:E.p=p
   ·have e4:((E.p:Int) == (p:Int))=true:=by rw [e3];exact decide_eq_true c1
    simp only [ep,e4,clD,VV];clear hA A1;subst hB
    (try dsimp only);refine M4 fun A1 B1 hA hB=>?_;simp only [ep,e4,VV];subst hA;clear hB B1;clear ep e3 e4;obtain ⟨Ep,Eq,Ec,Ek⟩:=E;dsimp only at c1;subst c1;obtain ⟨o1,o2,o3,o4,o5⟩:=oe
    have facts_row:∀ (w:Mv) (m:List Nat),w ≠ .inn->(Edge.mk Ep Eq Ec Ek).isStep=(w == .step)->(Edge.mk Ep Eq Ec Ek).tab w=m->∀ e ∈ v7 (m.getD d 0),R9 C st cs (.mv w k n e):=by
     rintro w m hw h1 rfl e he
     have tk:=U7 (C:=C) (f:=f) (n:=n) (p:=Ep) (d:=d) (e:=e) (w:=w) hF hE (by rw [h1];exact beq_self_eq_true _) rfl (a3W (b1F he).1);exact ⟨.within f a0 Eq e (x + Ec),by rw [b2U st hw ak,tk];rfl⟩
    cases Ek with
    |step t =>
     have m1:atI [D.str "step",nD Ep,nD Eq,nD Ec,tD t] (-1)=some (tD t):=rfl;have m2:∀ h',ixD h' (tD t) (nD d)=some (nD (t.getD d 0)):=fun h'=>a0p _ o5 u3;left;simp only [eD,VV];subst hN;left;simp only [t8,m1,m2,VV];refine ⟨_,rfl,?_⟩;simp only [VV];refine ⟨by rw [List.length_map];have:=a1E (t.getD d 0);omega,?_⟩;refine N0 (fun e:Nat=>rD (.mv .step k n e)) Src.ok_nil none (fun e he K k=>?_) ?_
     ·simp only [VV];rw [Int.zero_add];exact k
     ·simp only [t8,A2,List.length_map,VV];have l6:=a1E (t.getD d 0);refine ⟨by right,?_⟩;subst hN;simp only [VV];refine hN1 _ _ ⟨rs ++ (v7 (t.getD d 0)).map (fun e:Nat=>.mv .step k n e),_,_,_,rfl,?_,?_,fun r hr=>?_⟩
      ·rw [List.map_append,List.map_map];rfl
      ·simp only [List.length_append,List.length_map,List.length_singleton];omega
      ·rcases List.mem_append.mp hr with z | z
       ·exact hrs r z
       ·obtain ⟨e',he',rfl⟩:=List.mem_map.mp z;exact facts_row .step t (by decide) rfl rfl e' he'
    |call g i b o =>
     obtain ⟨G,hG,t1,t2,t3⟩:=o5;have m2:∀ h',ixD h' (tD o) (nD d)=some (nD (o.getD d 0)):=fun h'=>a0p _ t3 u3;have m1:atI [D.str "call",nD Ep,nD Eq,nD Ec,nD g,tD i,tD b,tD o] (-1)=some (tD o):=rfl;left;simp only [eD,VV];subst hN;left;simp only [t8,m1,m2,VV];refine ⟨_,rfl,?_⟩;simp only [VV];refine ⟨by rw [List.length_map];have:=a1E (o.getD d 0);omega,?_⟩;refine N0 (fun e:Nat=>rD (.mv .over k n e)) Src.ok_nil none (fun e he K k=>?_) ?_
     ·simp only [VV];rw [Int.zero_add];exact k
     ·simp only [t8,A2,List.length_map,VV];have l6:=a1E (o.getD d 0);refine ⟨by right,?_⟩;subst hN;rw [show rs.map rD ++ (v7 (o.getD d 0)).map (fun e:Nat=>rD (.mv .over k n e))=(rs ++ (v7 (o.getD d 0)).map (fun e:Nat=>Row.mv .over k n e)).map rD by rw [List.map_append,List.map_map];rfl]
      have ok1:∀ r ∈ rs ++ (v7 (o.getD d 0)).map (fun e:Nat=>Row.mv .over k n e),R9 C st cs r:=fun r hr=>by
       rcases List.mem_append.mp hr with z | z
       ·exact hrs r z
       ·obtain ⟨e',he',rfl⟩:=List.mem_map.mp z;exact facts_row .over o (by decide) rfl rfl e' he'
      have ll:(rs ++ (v7 (o.getD d 0)).map (fun e:Nat=>Row.mv .over k n e)).length=rs.length + (v7 (o.getD d 0)).length:=by simp
      generalize rs ++ (v7 (o.getD d 0)).map (fun e:Nat=>Row.mv .over k n e)=rs1 at ok1 ll;simp only [t8,VV];refine ⟨c,a,C,cs,⟨Ep,Eq,Ec,.call g i b o⟩,F,g,d,i,b,o,rfl,rfl,hc.mono (pr _),wf,⟨o1,o2,o3,o4,G,hG,t1,t2,t3⟩,u3,(pr _).ls ha,hcl,ok,fun xs hxl hxs=>?_⟩;simp only [VV];refine ⟨by rw [List.length_map];omega,?_⟩;refine W4 (g:=jD) (fun p acc δ h'=>(∃ x y,δ=[x,y,some (nD k),some (.int (0 + (n:Int)))])/\acc=p.map (fun z:Nat×Nat=>rD (.short k n z.1 z.2))/\h'=h ++ [.lst (rs1.map rD)]) ⟨⟨_,_,rfl⟩,rfl,rfl⟩ (fun _ _ _ _ _=>Src.ok_nil) ?_ ?_
      ·rintro p ⟨zj,ze⟩ r acc δ h' N ee ⟨⟨x,y,rfl⟩,rfl,rfl⟩ hN
       simp only [jD,VV];refine ⟨trivial,hN _ _ _ ⟨⟨_,_,rfl⟩,?_,rfl⟩⟩;rw [List.map_append,Int.zero_add];rfl
      ·rintro acc δ h' ⟨_,rfl,rfl⟩
       simp only [t8,A2,List.length_map,VV];refine ⟨by right,hN1 _ _ ⟨rs1 ++ xs.map (fun z:Nat×Nat=>.short k n z.1 z.2),_,_,_,rfl,?_,?_,fun r hr=>?_⟩⟩
       ·rw [List.map_append,List.map_map];rfl
       ·simp only [List.length_append,List.length_map,List.length_singleton];omega
       ·rcases List.mem_append.mp hr with z | z
        ·exact ok1 r z
        ·obtain ⟨⟨zj,ze⟩,hz,rfl⟩:=List.mem_map.mp z;obtain ⟨b',px,y',c',q1,⟨G',hG',q2⟩,q3,q4⟩:=hxs _ hz;have tk:=U7 (C:=C) (f:=f) (n:=n) (p:=Ep) (d:=d) (e:=b') (w:=.inn) hF hE rfl rfl q3;have ak2:=J7 q1;refine ⟨.within f a0 Eq ze (x + Ec + c'),?_⟩;rw [a6s st ak ak2,tk];show ((C[g]?).bind fun G=>if g=g/\px + 1=G.places/\br b y' ze=true then some (Clm.within f a0 Eq ((ze:Int)).toNat (x + Ec + c')) else none)=_;rw [hG'];show (if g=g/\px + 1=G'.places/\br b y' ze=true then some (Clm.within f a0 Eq ((ze:Int)).toNat (x + Ec + c')) else none)=_;rw [if_pos ⟨rfl,q2,q4⟩,Int.toNat_natCast]
   ·have e4:((E.p:Int) == (p:Int))=false:=by rw [e3];exact decide_eq_false c1
    simp only [ep,e4,clD,VV];clear hA A1;subst hB
    (try dsimp only);refine M4 fun A1 B1 hA hB=>?_;simp only [ep,e4,VV];clear hA A1;subst hB;exact same _ _ _
  ·rintro δ h' ⟨rs,x9,x10,x11,rfl,rfl,hrl,hrs⟩
   subst hN;simp only [VV];exact fin rs (by rw [List.length_zipIdx] at hrl;omega) hrs
 |«at» f p d x =>
  obtain ⟨F,hF,u2,u3⟩:=okc;obtain ⟨_,_,_,_,f100,eok⟩:=wf.fn f F hF;obtain ⟨y,e1,e2⟩:=hc.fn hF;obtain ⟨w,s1,s2⟩:=a2I e2
  have e1':∀ o,ixD (h ++ [o]) c (nD f)=some (.tup [nD F.places,nD F.facts,y]):=fun o=>by
   obtain ⟨fs,q1,q2,q3⟩:=hc;rw [r9 ((pr o).ls q1)];rw [r9 q1] at e1;exact e1
  delta k8 q8 a4d;simp only [VS];left;simp only [r9 ha,ax,VV];subst hN;left;simp only [clD,VV];subst hN;left;simp only [VV];have i3:atI [D.str "at",nD f,nD p,nD d,nD x] (((0 + 1 + 1 + 1 + 1 + 1:Nat):Int) - 3)=some (nD p):=rfl;have i2:atI [D.str "at",nD f,nD p,nD d,nD x] (((0 + 1 + 1 + 1 + 1 + 1:Nat):Int) - 2)=some (nD d):=rfl;simp only [i3,VV];subst hN;left;simp only [i2,VV];subst hN;left;simp only [VV];subst hN;left
  have rest:∀ (rs0:List Row) (x8:Option D),rs0.length <= 1000->(∀ r ∈ rs0,R9 C st cs r)->N [some c,some a,some (nD k),some (clD (.at f p d x)),some (nD f),some (nD p),some (nD d),some (.ref h.length),x8,none,none,none] (h ++ [.lst (rs0.map rD)]):=by
   intro rs0 x8 l3 ok0;subst hN;left;simp only [e1',s1 _ (pr _),VV];rw [a0Z];refine w5 (fun p' δ h'=>∃ (rs:List Row) (x9 x10 x11:Option D),δ=[some c,some a,some (nD k),some (clD (.at f p d x)),some (nD f),some (nD p),some (nD d),some (.ref h.length),x8,x9,x10,x11]/\h'=h ++ [.lst (rs.map rD)]/\rs.length <= 7000 * p'.length + 1000/\∀ r ∈ rs,R9 C st cs r) ⟨rs0,none,none,none,rfl,rfl,by simp;omega,ok0⟩ ?_ ?_ ?_
   ·rintro p' δ h' ⟨rs,x9,x10,x11,rfl,rfl,_⟩
    exact s2 _ _ (pr _)
   ·rintro p' ⟨E,n⟩ r' δ h' N1 e ⟨rs,x9,x10,x11,rfl,rfl,hrl,hrs⟩ hN1
    have hE:F.edges[n]?=some E:=by
     have:F.edges.zipIdx[p'.length]?=some (E,n):=by rw [e];simp
     rw [List.getElem?_zipIdx] at this
     cases z:F.edges[p'.length]? with
     |none=>rw [z] at this;cases this
     |some E'=>rw [z] at this;cases this;simpa using z
    have oe:=eok E (List.mem_of_getElem? hE);have same:∀ x9 x10 x11:Option D,N1 [some c,some a,some (nD k),some (clD (.at f p d x)),some (nD f),some (nD p),some (nD d),some (.ref h.length),x8,x9,x10,x11] (h ++ [.lst (rs.map rD)]):=fun x9 x10 x11=>hN1 _ _ ⟨rs,_,_,_,rfl,rfl,by rw [List.length_append];simp;omega,hrs⟩
    have rsl:rs.length <= 800000:=by
     have:p'.length < F.edges.zipIdx.length:=by rw [e];simp
     rw [List.length_zipIdx] at this;omega
    have ep:∀ h',ixD h' (eD E) (.int 1)=some (nD E.p):=fun h'=>b5g h' E;have e3:((E.p:Int) == (p:Int))=decide (E.p=p):=by first | exact Q3 _ _ | exact O3 _ _ | exact Q7 _ _
    simp only [VV0];refine ⟨trivial,?_⟩
    (try dsimp only);refine M4 fun A1 B1 hA hB=>?_
    by_cases c1:E.p=p
    ·have e4:((E.p:Int) == (p:Int))=true:=by rw [e3];exact decide_eq_true c1
     simp only [ep,e4,clD,VV];clear hB B1;subst hA;clear ep e3 e4;obtain ⟨Ep,Eq,Ec,Ek⟩:=E;dsimp only at c1;subst c1;obtain ⟨o1,o2,o3,o4,o5⟩:=oe
     cases Ek with
     |step t =>
      simp only [eD,VV];exact same _ _ _
     |call g i b o =>
      obtain ⟨G,hG,t1,t2,t3⟩:=o5;have m2:∀ h',ixD h' (tD i) (nD d)=some (nD (i.getD d 0)):=fun h'=>a0p _ t1 u3
      (try dsimp only);refine M4 fun A1 B1 hA hB=>?_;simp only [eD,VV];clear hB B1;subst hA;simp only [eD,t8,m2,VV];refine ⟨_,rfl,?_⟩;simp only [VV];refine ⟨by rw [List.length_map];have:=a1E (i.getD d 0);omega,?_⟩;refine N0 (fun e:Nat=>rD (.mv .inn k n e)) Src.ok_nil none (fun e he K k=>?_) ?_
      ·simp only [VV];rw [Int.zero_add];exact k
      ·simp only [t8,A2,List.length_map,VV];have l6:=a1E (i.getD d 0);refine ⟨by right,hN1 _ _ ⟨rs ++ (v7 (i.getD d 0)).map (fun e:Nat=>.mv .inn k n e),_,_,_,rfl,?_,?_,fun r hr=>?_⟩⟩
       ·rw [List.map_append,List.map_map];rfl
       ·simp only [List.length_append,List.length_map,List.length_singleton];omega
       ·rcases List.mem_append.mp hr with z | z
        ·exact hrs r z
        ·obtain ⟨e',he',rfl⟩:=List.mem_map.mp z;have tk:=U7 (C:=C) (f:=f) (n:=n) (p:=Ep) (d:=d) (e:=e') (w:=.inn) hF hE rfl rfl (a3W (b1F he').1);exact ⟨.at g 0 e' (x + Ec),by rw [b8I st ak,tk];rfl⟩
    ·have e4:((E.p:Int) == (p:Int))=false:=by rw [e3];exact decide_eq_false c1
     simp only [ep,e4,clD,VV];clear hA A1;subst hB
     (try dsimp only);refine M4 fun A1 B1 hA hB=>?_;simp only [ep,e4,VV];clear hA A1;subst hB;exact same _ _ _
   ·rintro δ h' ⟨rs,x9,x10,x11,rfl,rfl,hrl,hrs⟩
    subst hN;simp only [VV];exact fin rs (by rw [List.length_zipIdx] at hrl;omega) hrs
  by_cases p0:p=0
  ·subst p0;have z0:(((0:Nat):Int) == 0)=true:=rfl;simp only [z0,VV]
   (try dsimp only);refine D9 fun N2 hN2=>?_;simp only [p6 ((pr _).ls ha),List.length_map,VV];refine ⟨by right,by rw [w4];omega,?_⟩;rw [v9,Int.toNat_natCast];have e30:((0:Int) + 3)=3:=rfl;refine a0U (fun j=>alB cs f d j) nD Src.ok_nil none (fun j hj K k=>?_) (fun j hj _ K k=>?_) ?_
   ·have hj:=List.mem_range.mp hj;obtain ⟨one,ho⟩:∃ y,cs[j]?=some y:=⟨_,List.getElem?_eq_getElem hj⟩
    have aj:atI (cs.map clD) (0 + (j:Int))=some (clD one):=by rw [Int.zero_add,atN,List.getElem?_map,ho];rfl
    have lk:=(pr (.lst [])).ls ha;unfold alB at k;rw [ho] at k
    cases one with
    |«at» f' p' d' x'=>simp only [r9 lk,aj,clD,VV];exact k
    |within g b p' d' x' =>
     have k:K (decide (g=f) && decide (b=d)) _:=k;have sl:U3 [D.str "within",nD g,nD b,nD p',nD d',nD x'] (some 1) (some 3)=[nD g,nD b]:=rfl;simp only [r9 lk,aj,clD,sl,VV];refine ⟨_,_,.tup (.cons (.int _) (.cons (.int _) .nil)),.tup (.cons (.int _) (.cons (.int _) .nil)),V1 [_,_],V1 [_,_],?_⟩;rw [b9j];have g1:((g:Int) == (f:Int))=decide (g=f):=by first | exact Q3 _ _ | exact O3 _ _ | exact Q7 _ _
     have g2:((b:Int) == (d:Int))=decide (b=d):=by first | exact Q3 _ _ | exact O3 _ _ | exact Q7 _ _
     rw [g1,g2];exact k
   ·simp only [VV];rw [Int.zero_add];exact k
   ·have m3:((List.range cs.length).filter (fun j=>alB cs f d j)).length <= 1000:=Nat.le_trans (List.length_filter_le _ _) (by rw [List.length_range];exact hcl);subst hN2;simp only [t8,VV];refine ⟨by rw [List.length_map];omega,?_⟩;refine N0 (fun j:Nat=>rD (.along k j)) Src.ok_nil none (fun e he K k=>?_) ?_
    ·simp only [VV];exact k
    ·simp only [t8,A2,List.length_map,VV];refine ⟨by right,?_⟩
     have:=rest (((List.range cs.length).filter (alB cs f d)).map fun j:Nat=>.along k j) (some (.lst (((List.range cs.length).filter (alB cs f d)).map nD))) (by simpa using m3) (fun r hr=>by
      obtain ⟨j,hj,rfl⟩:=List.mem_map.mp hr;rw [List.mem_filter] at hj;have hj:=hj.2;unfold alB at hj
      cases z:cs[j]? with
      |none=>rw [z] at hj;cases hj
      |some o =>
       rw [z] at hj
       cases o with
       |«at» f' p' d' x'=>cases hj
       |within g b p' d' x' =>
        have hj:(decide (g=f) && decide (b=d))=true:=hj;rw [Bool.and_eq_true,decide_eq_true_iff,decide_eq_true_iff] at hj;obtain ⟨rfl,rfl⟩:=hj;exact ⟨_,a2Q st ak (J7 z)⟩)
     rw [List.map_map] at this;exact this
  ·have e0:((p:Int) == 0)=decide (p=0):=by rw [Bool.eq_iff_iff];simp
   simp only [e0,p0,VV];exact rest [] none (by simp) (fun x hx=>nomatch hx)
theorem b3L{f:Addr}{fd:FuncData}(F:Fun K "_law_rows_from" "_law_rows_from" a8r f fd)(T:Txt P w K mg)(C_q8:Cal P w K mg base 1 "_law_facts" ["_law_mask"] (spD K 1 a1V))(C_q9:Cal P w K mg base 2 "_law_inner" ["_law_chart_here","_law_done","_law_edge_here","_law_d"] (spD K 4 b1R)):u7 P w K mg base CX0 3 f fd ["_law_chart_here","_law_done","_law_k"] (spD K 3 a4n) :=
 L7 (k:=2) (b:=a4d) F sc_q16 (fun cdv A outer s H E hr=>by
  refine b9 ?_ ?_
  ·exact g7 (i:=3) sc_q16.nd rfl (Or.inl rfl) (c7 c6 (sv 1) (sv 2))
  refine b9 ?_ ?_
  ·exact g7 (i:=4) sc_q16.nd rfl (Or.inr rfl) (c7 c6 (sv 3) a9)
  refine b9 ?_ ?_
  ·refine g7 (i:=5) sc_q16.nd rfl (Or.inl rfl) ?_;exact c7 c6 (sv 3) (g8 C8 (f9 n8 rfl T.b_len PySem.boot_len (a7 (sv 3) b8)) a9)
  refine b9 ?_ ?_
  ·refine g7 (i:=6) sc_q16.nd rfl (Or.inr rfl) ?_;exact c7 c6 (sv 3) (g8 C8 (f9 n8 rfl T.b_len PySem.boot_len (a7 (sv 3) b8)) a9)
  refine b9 ?_ ?_
  ·exact g7 (i:=7) sc_q16.nd rfl (Or.inl rfl) (S9 (t7 b8))
  refine b9 ?_ ?_
  ·refine p7 ?_ ?_ g6
   ·exact F1 (E3 (e7 (o7 hr.units) (c7 c6 (sv 3) a9) f8) (E1 (e7 (o7 hr.units) (sv 5) a9)))
   refine b9 ?_ ?_
   ·exact a1Z (i:=8) (hN:=sc_q16.nd) (hix:=rfl) (hx:=(Or.inl rfl)) rfl (N':= ["_law_j","_law_done","_law_f","_law_d"]) (js:=[none,some 1,some 4,some 6]) ⟨rfl,by decide +kernel,rfl,rfl,rfl⟩ (B0 rfl T.b_range (a7 (f9 n8 rfl T.b_len PySem.boot_len (a7 (sv 1) b8)) b8)) (fun s0 H0 fp=>⟨(j9 (i:=0) (show (["_law_j","_law_done","_law_f","_law_d"]:List Str).Nodup by decide +kernel) rfl (Or.inl rfl)),(a0m (F1 (E3 (e7 (o7 hr.units) (c7 c6 (c7 c6 (sv 1) (sv 0)) a9) f8) (E1 (e7 (o7 hr.units) (a4q (c7 c6 (sv 1) (sv 0)) (W1 a9) (W1 a9)) (i8 (a7 (sv 2) (a7 (sv 3) b8)))))))),(sv 0)⟩)
   refine d0 ?_;refine B5 ?_;refine J6 (n:=1) (sv 7) ?_;refine a7 ?_ b8;refine C9 ?_;exact F4 rfl (N':= ["_law_j","_law_k"]) (js:=[none,some 2]) ⟨rfl,by decide +kernel,rfl,rfl,rfl⟩ (B9 (sv 8)) (fun s0 H0 fp=>⟨(j9 (i:=0) (show (["_law_j","_law_k"]:List Str).Nodup by decide +kernel) rfl (Or.inl rfl)),L9,(i8 (a7 f8 (a7 (sv 1) (a7 (sv 0) b8))))⟩)
  refine b9 ?_ (d0 (g9 (sv 7)));refine J0 PassesOwn.never rfl ?_ ?_ ?_
  ·exact b0F rfl T.b_enumerate (a7 (c7 c6 (c7 c6 (sv 0) (sv 4)) a9) b8)
  ·exact P6 rfl (u6 (j9 (i:=9) sc_q16.nd rfl (Or.inr rfl)) (u6 (j9 (i:=10) sc_q16.nd rfl (Or.inl rfl)) K8))
  refine d0 ?_;refine p7 ?_ ?_ ?_
  ·exact F1 (E3 (e7 (o7 hr.units) (c7 c6 (sv 10) a9) (sv 5)) (E1 (e7 (o7 hr.units) (c7 c6 (sv 3) a9) f8)))
  ·refine d0 ?_;refine p7 (e7 (o7 hr.units) (c7 c6 (sv 10) a9) f8) ?_ g6;refine d0 ?_;refine B5 ?_;refine J6 (n:=1) (sv 7) ?_;refine a7 ?_ b8;refine C9 ?_;exact F4 rfl (N':= ["_law_e","_law_k","_law_n"]) (js:=[none,some 2,some 9]) ⟨rfl,by decide +kernel,rfl,rfl,rfl⟩ (B9 (f7 C_q8 (hr.mono (by decide)) rfl (a7 (c7 c6 (c7 c6 (sv 10) a9) (sv 6)) b8))) (fun s0 H0 fp=>⟨(j9 (i:=0) (show (["_law_e","_law_k","_law_n"]:List Str).Nodup by decide +kernel) rfl (Or.inl rfl)),L9,(i8 (a7 f8 (a7 (sv 1) (a7 (sv 2) (a7 (sv 0) b8)))))⟩)
  refine d0 ?_;refine p7 (e7 (o7 hr.units) (c7 c6 (sv 10) a9) (sv 5)) ?_ g6;refine b9 ?_ ?_
  ·refine g7 (i:=11) ?_ ?_ ?_ ?_
   ·exact sc_q16.nd
   ·exact rfl
   ·exact Or.inr rfl
   exact c7 c6 (C9 (t7 (a7 f8 (a7 f8 b8)))) (z7 J8 rfl T.b_int PyProof.Rows.boot_int (a7 (E5 (o7 hr.units) (c7 c6 (sv 10) a9) f8) b8))
  refine b9 ?_ ?_
  ·refine B5 ?_;refine J6 (n:=1) (sv 7) ?_;refine a7 ?_ b8;refine C9 ?_;exact F4 rfl (N':= ["_law_e","_law_word","_law_k","_law_n"]) (js:=[none,some 11,some 2,some 9]) ⟨rfl,by decide +kernel,rfl,rfl,rfl⟩ (B9 (f7 C_q8 (hr.mono (by decide)) rfl (a7 (c7 c6 (c7 c6 (sv 10) (a0v S7 a9)) (sv 6)) b8))) (fun s0 H0 fp=>⟨(j9 (i:=0) (show (["_law_e","_law_word","_law_k","_law_n"]:List Str).Nodup by decide +kernel) rfl (Or.inl rfl)),L9,(i8 (a7 (sv 1) (a7 (sv 2) (a7 (sv 3) (a7 (sv 0) b8)))))⟩)
  refine d0 ?_;refine p7 (e7 (o7 hr.units) (c7 c6 (sv 10) a9) f8) ?_ g6;refine d0 ?_;refine B5 ?_;refine J6 (n:=1) (sv 7) ?_;refine a7 ?_ b8;refine C9 ?_;exact F4 rfl (N':= ["_law_j","_law_e","_law_k","_law_n"]) (js:=[none,none,some 2,some 9]) ⟨rfl,by decide +kernel,rfl,rfl,rfl⟩ (B9 (f7 C_q9 (hr.mono (by decide)) rfl (a7 (sv 0) (a7 (sv 1) (a7 (sv 10) (a7 (sv 6) b8)))))) (fun s0 H0 fp=>⟨(P6 rfl (u6 (j9 (i:=0) (show (["_law_j","_law_e","_law_k","_law_n"]:List Str).Nodup by decide +kernel) rfl (Or.inl rfl)) (u6 (j9 (i:=1) (show (["_law_j","_law_e","_law_k","_law_n"]:List Str).Nodup by decide +kernel) rfl (Or.inl rfl)) K8))),L9,(i8 (a7 f8 (a7 (sv 2) (a7 (sv 3) (a7 (sv 0) (a7 (sv 1) b8))))))⟩)) b1f
def a6K:DS:=(d8 (j8 (dTk c8) (d7 1))
  (d8 (O5 (G2 (b7 0)) (d7 2) (d8 (j8 (dC (.int 0)) (d7 3))
  (d8 (o9 (k7 (dOp (pIn true) (dOp pIx (b7 2) (dC (.int 0))) (t9 (a8 (dC (.str "begin")) (a8 (dC (.str "start")) c8))))) (j8 (dOp u0 (dOp pIx (b7 1) (dOp pIx (b7 2) (dC (.int 1)))) (dOp pIx (dV (a8 (dC (.int 1)) (a8 (dC (.int 0)) c8))) (dCB W5 (a8 (dOp (pEq false) (dOp pIx (b7 2) (dC (.int 0))) (dC (.str "along"))) c8)))) (d7 3)) k6)
  (d8 (o9 (k7 (dOp (pEq false) (dOp pIx (b7 2) (dC (.int 0))) (dC (.str "short")))) (j8 (dOp u0 (dOp u0 (b7 3) (dOp pIx (b7 1) (dOp pIx (b7 2) (dC (.int 3))))) (dC (.int 1))) (d7 3)) k6)
  (d8 (o9 (k7 (dOp (pEq false) (dOp pIx (b7 2) (dC (.int 0))) (dC (.str "along")))) (j8 (dOp u0 (b7 3) (dOp pIx (b7 1) (dOp pIx (b7 2) (dC (.int 2))))) (d7 3)) k6)
  (F2 (B6 (b7 1) (a8 (b7 3) c8))))))))
  (l9 (b7 1))))
theorem b4a{C:i9}{st:Nat}{rs:List Row}{cs:List Clm}{ws:List (List GM)}{vs:List Nat}(p:PR C st rs cs ws vs):∀ (k:Nat) (r:Row),rs[k]?=some r->∃ c w,cs[k]?=some c/\ws[k]?=some w/\Cl C st (cs.take k) r c/\w=C7 (ws.take k) (k9 (cs.take k) r):=by
 induction p with
 |nil=>intro k r h;simp at h
 |@snoc rs cs ws vs r0 c0 p h ih =>
  intro k r hr;obtain ⟨l1,l2,l3⟩:=p.lens
  rcases E8 hr with hr | ⟨e,hr⟩
  ·obtain ⟨c,w,h1,h2,h3,h4⟩:=ih k r hr
   have:=m9 hr
   rw [List.take_append_of_le_length (by right),List.take_append_of_le_length (by right),List.getElem?_append_left (by right),List.getElem?_append_left (by right)];exact ⟨c,w,h1,h2,h3,h4⟩
  ·subst hr;subst e;rw [<- l1,List.take_append_of_le_length (Nat.le_refl _),List.take_length,List.getElem?_append_right (Nat.le_refl _),Nat.sub_self,l1,<- l2,List.take_append_of_le_length (Nat.le_refl _),List.take_length,List.getElem?_append_right (Nat.le_refl _),Nat.sub_self];exact ⟨_,_,rfl,rfl,Cl.of h,rfl⟩
theorem b9Q:inF (.str "begin") [.str "begin",.str "start"]=true:=by decide +kernel
theorem b9F:inF (.str "start") [.str "begin",.str "start"]=true:=by decide +kernel
theorem b8j:inF (.str "short") [.str "begin",.str "start"]=false:=by decide +kernel
theorem b8v:inF (.str "along") [.str "begin",.str "start"]=false:=by decide +kernel
theorem b8b:inF (.str "step") [.str "begin",.str "start"]=false:=by decide +kernel
theorem b8g:inF (.str "over") [.str "begin",.str "start"]=false:=by decide +kernel
theorem b7S:inF (.str "in") [.str "begin",.str "start"]=false:=by decide +kernel
def a4C:DSp:=fun ds h Q=>∃ (C:i9) (st:Nat) (rs:List Row) (cs:List Clm) (ws:List (List GM)) (vs:List Nat),ds=[.lst (rs.map rD)]/\rs.length <= 200/\PR C st rs cs ws vs/\Q (.lst (ws.map fun w=>nD w.length)) h
theorem b1i:∀ ds h Q,a4C ds h Q->k8 4 a6K ds h (Dr h Q):=by
 rintro ds h Q ⟨C,st,rs,cs,ws,vs,rfl,hl,pr,q⟩
 obtain ⟨l1,l2,l3⟩:=pr.lens;delta k8 q8 a6K;simp only [VS];left;simp only [VV];subst hN;left;simp only [VV];refine w5 (fun p δ h'=>∃ (x2 x3:Option D),δ=[some (.lst (rs.map rD)),some (.ref h.length),x2,x3]/\h'=h ++ [.lst ((ws.take p.length).map fun w=>nD w.length)]) ⟨none,none,rfl,rfl⟩ (fun _ _ _ _=>Src.ok_nil) ?_ ?_
 ·rintro p r r' δ h' N1 e ⟨x2,x3,rfl,rfl⟩ hN1
  have hr:rs[p.length]?=some r:=by rw [e];simp
  have pl:=m9 hr;obtain ⟨c,w,h1,h2,cl,hw⟩:=b4a pr _ _ hr;have pp:=pr.prefix p.length (by right);have mn:=pp.many cl;rw [<- hw] at mn;obtain ⟨ft,lt⟩:=cl.parts;have ctl:(cs.take p.length).length=p.length:=by rw [List.length_take];omega
  rw [ctl] at lt
  have ixw:∀ k:Int,0 <= k->k.toNat < p.length->ixD (h ++ [.lst ((ws.take p.length).map fun w=>nD w.length)]) (.ref h.length) (.int k)=some (nD ((ws.take p.length).getD k.toNat []).length):=fun k k0 kl=>by
   rw [r9 (T0 h _),T6 k0,List.getElem?_map,List.getD_eq_getElem?_getD,List.getElem?_eq_getElem (by rw [List.length_take];omega)];rfl
  have last:∀ n:Int,n=(w.length:Int)->F2 (B6 (b7 1) (a8 (b7 3) c8)) { nx:=N1,rt:=Dr h Q,bk:=N1,ct:=N1 } [some (.lst (rs.map rD)),some (.ref h.length),some (rD r),some (.int n)] (h ++ [.lst ((ws.take p.length).map fun w=>nD w.length)]):=by
   rintro n rfl
   simp only [t8,A2,List.length_map,VV];refine ⟨by rw [List.length_take];omega,hN1 _ _ ⟨_,_,rfl,?_⟩⟩;rw [show (p ++ [r]).length=p.length + 1 by simp,List.take_add_one,h2,List.map_append];rfl
  simp only [VV];left;simp only [VV];subst hN;left
  cases r with
  |begin f d =>
   simp only [rD,b9Q,VV];refine ⟨by decide +kernel,?_⟩;subst hN;left;simp only [VV];subst hN;left;simp only [VV];subst hN;exact last _ (by rw [mn];rfl)
  |start d =>
   simp only [rD,b9F,VV];refine ⟨by decide +kernel,?_⟩;subst hN;left;simp only [VV];subst hN;left;simp only [VV];subst hN;exact last _ (by rw [mn];rfl)
  |mv w' k n e =>
   have k0:0 <= k:=ft;have kl:=lt k.toNat (by simp [k9])
   cases w' with
   |step =>
    simp only [rD,Mv.w,b8b,ixw k k0 kl,VV];refine ⟨by decide +kernel,?_⟩;subst hN;left;simp only [VV];subst hN;left;simp only [VV];subst hN;exact last _ (by rw [mn];dsimp only;omega)
   |over =>
    simp only [rD,Mv.w,b8g,ixw k k0 kl,VV];refine ⟨by decide +kernel,?_⟩;subst hN;left;simp only [VV];subst hN;left;simp only [VV];subst hN;exact last _ (by rw [mn];dsimp only;omega)
   |inn =>
    simp only [rD,Mv.w,b7S,ixw k k0 kl,VV];refine ⟨by decide +kernel,?_⟩;subst hN;left;simp only [VV];subst hN;left;simp only [VV];subst hN;exact last _ (by rw [mn];dsimp only;omega)
  |short k n j e =>
   have k0:0 <= k:=ft.1;have j0:0 <= j:=ft.2.1;have kl:=lt k.toNat (by simp [k9]);have jl:=lt j.toNat (by simp [k9]);simp only [rD,b8j,ixw k k0 kl,VV];refine ⟨by decide +kernel,?_⟩;subst hN;left;simp only [ixw j j0 jl,VV];subst hN;left;simp only [VV];subst hN;exact last _ (by rw [mn];dsimp only;omega)
  |along k j =>
   have k0:0 <= k:=ft.1;have j0:0 <= j:=ft.2;have kl:=lt k.toNat (by simp [k9]);have jl:=lt j.toNat (by simp [k9]);simp only [rD,b8v,ixw k k0 kl,VV];refine ⟨by decide +kernel,?_⟩;subst hN;left;simp only [VV];subst hN;left;simp only [ixw j j0 jl,VV];subst hN;exact last _ (by rw [mn];dsimp only;omega)
 ·rintro δ h' ⟨x2,x3,rfl,rfl⟩
  subst hN;simp only [VV];have ex:ws.take rs.length=ws:=by rw [<- l2];exact List.take_length
  rw [ex]
  have:=Dr.dropL (h:=h) (Q:=Q) (xs:=ws.map fun w=>nD w.length) (g1:=[]) (g2:=[]) (k:=h.length) (E6 (fun _=>rfl) ws) (by simp) q
  simpa using this
theorem b5U{f:Addr}{fd:FuncData}(F:Fun K "_law_many" "_law_many" a6n f fd)(T:Txt P w K mg):u7 P w K mg base CX0 1 f fd ["_law_rows"] (spD K 1 a4C) :=
 L7 (k:=0) (b:=a6K) F sc_q10 (fun cdv A outer s H E hr=>by
  refine b9 ?_ ?_
  ·exact g7 (i:=1) sc_q10.nd rfl (Or.inl rfl) (S9 (t7 b8))
  refine b9 ?_ (d0 (g9 (sv 1)));refine J0 PassesOwn.never rfl (B9 (sv 0)) (j9 (i:=2) sc_q10.nd rfl (Or.inl rfl)) ?_;refine b9 ?_ ?_
  ·exact g7 (i:=3) sc_q10.nd rfl (Or.inl rfl) a9
  refine b9 ?_ ?_
  ·refine p7 ?_ ?_ g6
   ·exact e7 a2h (c7 c6 (sv 2) a9) (i8 (a7 f8 (a7 f8 b8))) rfl
   refine d0 ?_;refine g7 (i:=3) ?_ ?_ ?_ ?_
   ·exact sc_q10.nd
   ·exact rfl
   ·exact Or.inl rfl
   exact g8 m7 (c7 c6 (sv 1) (c7 c6 (sv 2) a9)) (c7 c6 (C9 (t7 (a7 a9 (a7 a9 b8)))) (z7 J8 rfl T.b_int PyProof.Rows.boot_int (a7 (E5 (o7 hr.units) (c7 c6 (sv 2) a9) f8) b8)))
  refine b9 ?_ ?_
  ·refine p7 (e7 (o7 hr.units) (c7 c6 (sv 2) a9) f8) ?_ g6;refine d0 ?_;refine g7 (i:=3) sc_q10.nd rfl (Or.inl rfl) ?_;exact g8 m7 (g8 m7 (sv 3) (c7 c6 (sv 1) (c7 c6 (sv 2) a9))) a9
  refine b9 ?_ (d0 (B5 (z5 (sv 1) (a7 (sv 3) b8))));refine p7 (e7 (o7 hr.units) (c7 c6 (sv 2) a9) f8) ?_ g6;refine d0 ?_;refine g7 (i:=3) sc_q10.nd rfl (Or.inl rfl) ?_;exact g8 m7 (sv 3) (c7 c6 (sv 1) (c7 c6 (sv 2) a9))) b1i
def a7B:DS:=(d8 (j8 (b7 1) (a2c 4 (A8 (d7 4) (A8 (d7 5) (A8 (d7 6) (A8 (d7 7) U4))))))
  (d8 (o9 (dOr (M3 (dTr (G3 "tuple" (b7 3)))) (k7 (dOp (pEq true) (dCB A0 (a8 (b7 3) c8)) (dOp pIx (dV (a8 (dC (.int 3)) (a8 (dC (.int 2)) c8))) (dCB W5 (a8 (dOp (pEq false) (dOp pIx (b7 3) (dC (.int 0))) (dC (.str "out"))) c8)))))) (l9 (dC .non)) k6)
  (d8 (o9 (k7 (dOp (pIn false) (dC (.bl true)) (dV (G4 [none] (G2 (b7 3)) (d7 0) M7 (G3 "bool" (b7 0)))))) (l9 (dC .non)) k6)
  (d8 (o9 (k7 (dOp (pEq false) (dOp pIx (b7 3) (dC (.int 0))) (dC (.str "out")))) (d8 (o9 (dOr (k7 (dOp (pEq false) (dCB A0 (a8 (b7 2) c8)) (dC (.int 0)))) (k7 (dOp (pEq true) (b7 5) (dOp M2 (dOp pIx (dOp pIx (b7 0) (b7 4)) (dC (.int 0))) (dC (.int 1)))))) (l9 (dC .non)) k6)
  (d8 (j8 (b5s (b7 2)) (a2c 2 (A8 (d7 8) (A8 (d7 9) U4))))
  (l9 (dIf (dTr (l8 Z1 (a8 (dOp pIx (b7 9) (dC (.int 6))) (a8 (b7 6) (a8 (dOp pIx (b7 3) (dC (.int 1))) c8))))) (t9 (a8 (b7 8) (a8 (dOp pIx (b7 9) (dC (.int 2))) (a8 (dOp pIx (b7 3) (dC (.int 1))) (a8 (b7 7) c8))))) (dC .non))))) k6)
  (d8 (j8 (l8 a2M (a8 (b7 0) (a8 (b7 4) (a8 (dOp pIx (b7 3) (dC (.int 1))) (a8 (dOp pIx (dV (a8 (dC (.str "call")) (a8 (dC (.str "step")) c8))) (dCB W5 (a8 (dOp (pEq false) (dOp pIx (b7 3) (dC (.int 0))) (dC (.str "step"))) c8))) (a8 (b7 5) c8)))))) (d7 9))
  (d8 (o9 (dOr (k7 (dOp (pIs false) (b7 9) (dC .non))) (k7 (dOp (pIn true) (dOp pIx (b7 3) (dC (.int 0))) (t9 (a8 (dC (.str "step")) (a8 (dC (.str "over")) (a8 (dC (.str "in")) c8))))))) (l9 (dC .non)) k6)
  (d8 (o9 (k7 (dOp (pEq false) (dOp pIx (b7 3) (dC (.int 0))) (dC (.str "in")))) (d8 (F2 (B6 (b7 2) (a8 (t9 (a8 (b7 4) (a8 (b7 9) c8))) c8)))
  (l9 (dIf (dTr (l8 Z1 (a8 (dOp pIx (b7 9) (dC (.int 5))) (a8 (b7 6) (a8 (dOp pIx (b7 3) (dC (.int 2))) c8))))) (t9 (a8 (dOp pIx (b7 9) (dC (.int 4))) (a8 (dC (.int 0)) (a8 (dOp pIx (b7 3) (dC (.int 2))) (a8 (dOp u0 (b7 7) (dOp pIx (b7 9) (dC (.int 3)))) c8))))) (dC .non)))) k6)
  (l9 (dIf (dTr (l8 Z1 (a8 (dOp pIx (b7 9) (dUn a2S (dC (.int 1)))) (a8 (b7 6) (a8 (dOp pIx (b7 3) (dC (.int 2))) c8))))) (t9 (a8 (b7 4) (a8 (dOp pIx (b7 9) (dC (.int 2))) (a8 (dOp pIx (b7 3) (dC (.int 2))) (a8 (dOp u0 (b7 7) (dOp pIx (b7 9) (dC (.int 3)))) c8))))) (dC .non))))))))))
def a5v(s:Spt):D:=.tup [nD s.f,nD s.p,nD s.d,nD s.c]
def opD(x:Nat×Edge):D:=.tup [nD x.1,eD x.2]
theorem b7L(h:Hh){E:Edge}(hs:E.isStep=true):ixD h (eD E) (.int (-1))=some (tD (E.tab .step)):=by
 obtain ⟨a,b,c,k⟩:=E
 cases k with
 |step t=>rfl
 |call=>cases hs
theorem b7N(h:Hh){E:Edge}(hs:E.isStep=false):ixD h (eD E) (.int (-1))=some (tD (E.tab .over)):=by
 obtain ⟨a,b,c,k⟩:=E
 cases k with
 |step t=>cases hs
 |call=>rfl
theorem a1S{E:Edge}{g:Nat}{i b o:List Nat}(hk:E.k = .call g i b o):eD E = .tup [.str "call",nD E.p,nD E.q,nD E.cost,nD g,tD i,tD b,tD o]:=by unfold eD;rw [hk]
theorem b7A:inF (.str "step") [.str "step",.str "over",.str "in"]=true:=by decide +kernel
theorem b8a:inF (.str "over") [.str "step",.str "over",.str "in"]=true:=by decide +kernel
theorem b8c:inF (.str "in") [.str "step",.str "over",.str "in"]=true:=by decide +kernel
theorem e33:(((3:Nat):Int) == 3)=true:=rfl
theorem e22:(((2:Nat):Int) == 2)=true:=rfl
def a4M:DSp:=fun ds h Q=>∃ (C:i9) (s s':Spt) (o o':Opn) (i:Nat) (g:GM),ds=[cD C,a5v s,.ref i,gmD g]/\WF C/\b0z C s/\b2b C o/\h[i]?=some (.lst (o.map opD))/\o.length <= 100000/\One C s o g s' o'/\Q (a5v s') (h.set i (.lst (o'.map opD)))
theorem a2e{h:Hh}{Q:List D->Hh->Prop}{xs:List D}(hx:∀ y ∈ xs,(∃ s,y = .str s)\/∃ n,y = .int n)(q:Q (xs.map fun _=>.bl false) h):P7 ⟨xs,[]⟩ (d7 0) M7 (G3 "bool" (b7 0)) xs [] [none] h Q:=by
 have:=N0 (te:=G3 "bool" (b7 0)) (fr:=[]) (S:=⟨xs,[]⟩) (g:=id) (ys:=xs) (h:=h) (Q:=Q) (fun _=>.bl false) Src.ok_nil none (fun y hy K k=>?_) q
 ·rw [List.map_id] at this;exact this
 ·rcases hx y hy with ⟨s,rfl⟩ | ⟨n,rfl⟩
  ·simp only [id,VV];exact k
  ·simp only [id,VV];exact k
theorem b9k:inF (.bl true) [.bl false,.bl false]=false:=rfl
theorem b3N:inF (.bl true) [.bl false,.bl false,.bl false]=false:=rfl
theorem a0Y{C:i9}{f p:Nat}{n:Int}{E:Edge}{F:Fn}(hF:C[f]?=some F)(n0:0 <= n)(hE:F.edges[n.toNat]?=some E)(hp:E.p=p):D7 C f n E.isStep p=some E:=by
 have:B4 C f n=some E:=by unfold B4;rw [if_pos n0,hF];exact hE
 unfold D7;rw [this];exact if_pos ⟨rfl,hp⟩
theorem b0M:∀ ds h Q,a4M ds h Q->k8 10 a7B ds h Q:=by
 rintro ds h Q ⟨C,s,s',o,o',i,g,rfl,wf,⟨F,hF,hp,hd⟩,oo,hi,ol,one,q⟩
 have w2:∀ (a:Str) (b:Int),∀ y ∈ [D.str a,D.int b],(∃ s,y = .str s)\/∃ n,y = .int n:=fun a b y hy=>by
  simp only [List.mem_cons,List.not_mem_nil,or_false] at hy
  rcases hy with rfl | rfl
  ·exact .inl ⟨_,rfl⟩
  ·exact .inr ⟨_,rfl⟩
 have w3:∀ (a:Str) (b c:Int),∀ y ∈ [D.str a,D.int b,D.int c],(∃ s,y = .str s)\/∃ n,y = .int n:=fun a b c y hy=>by
  simp only [List.mem_cons,List.not_mem_nil,or_false] at hy
  rcases hy with rfl | rfl | rfl
  ·exact .inl ⟨_,rfl⟩
  ·exact .inr ⟨_,rfl⟩
  ·exact .inr ⟨_,rfl⟩
 delta k8 q8 a7B;simp only [VS];left;simp only [a5v,VV];refine ⟨trivial,?_⟩;subst hN;left
 have ix3:∀ h',ixD h' (cD C) (nD s.f)=some (fD F):=fun h'=>by
  show atI (C.map fD) (s.f:Int)=_;rw [atN,List.getElem?_map,hF];rfl
 cases one with
 |@mv f p d c o w n e E hw ht =>
  obtain ⟨n0,hE,st,ep,hb,_,e0,tk,_⟩:=P9 wf hF hd ht;obtain ⟨tok,_⟩:=tk hw;have he:=a0Y hF n0 hE ep;have F6:=(wf.fn _ F hF).2.2.2.1
  cases w with
  |inn=>exact absurd rfl hw
  |step =>
   simp only [gmD,Mv.w,e33,VV];subst hN;left;simp only [VV];refine ⟨by decide,a2e (w3 _ _ _) ?_⟩;simp only [b3N,VV];refine ⟨rfl,?_⟩;subst hN;left;simp only [VV];subst hN;left;simp only [VV];have hs:E.isStep=true:=eq_of_beq st;rw [hs] at he;refine ⟨cD C,C,f,p,F,n,true,rfl,ChD.of _ C,hF,?_⟩;rw [he];subst hN;left;simp only [oD,a0s,b7A,VV];refine ⟨by decide +kernel,?_⟩;subst hN;left;simp only [VV];subst hN;simp only [b7L _ hs,b2l,b1T,VV];refine ⟨_,_,_,d,e,rfl,tok,F6,hd,?_⟩;rw [hb];simp only [VV];have q:Q (.tup [nD f,nD E.q,.int ((e.toNat:Nat):Int),.int ((c + E.cost:Nat):Int)]) (h.set i (.lst (o.map opD))):=q;rw [Int.toNat_of_nonneg e0,Int.natCast_add,a3Z hi] at q;exact q
  |over =>
   simp only [gmD,Mv.w,e33,VV];subst hN;left;simp only [VV];refine ⟨by decide,a2e (w3 _ _ _) ?_⟩;simp only [b3N,VV];refine ⟨rfl,?_⟩;subst hN;left;simp only [VV];subst hN;left;simp only [VV];have hs:E.isStep=false:=by cases q:E.isStep with | false=>rfl | true=>rw [q] at st;cases st
   rw [hs] at he;refine ⟨cD C,C,f,p,F,n,false,rfl,ChD.of _ C,hF,?_⟩;rw [he];subst hN;left;simp only [oD,a0s,b8a,VV];refine ⟨by decide +kernel,?_⟩;subst hN;left;simp only [VV];subst hN;simp only [b7N _ hs,b2l,b1T,VV];refine ⟨_,_,_,d,e,rfl,tok,F6,hd,?_⟩;rw [hb];simp only [VV];have q:Q (.tup [nD f,nD E.q,.int ((e.toNat:Nat):Int),.int ((c + E.cost:Nat):Int)]) (h.set i (.lst (o.map opD))):=q;rw [Int.toNat_of_nonneg e0,Int.natCast_add,a3Z hi] at q;exact q
 |@inn f p d c g o n e E ii b v ht hk =>
  obtain ⟨n0,hE,st,ep,hb,_,e0,_,tk⟩:=P9 wf hF hd ht;obtain ⟨g',i',b',v',G,hk',hG,t1,t2,_⟩:=tk rfl;rw [hk] at hk';cases hk'
  have he:=a0Y hF n0 hE ep;have G6:=(wf.fn _ G hG).2.2.2.1;simp only [gmD,Mv.w,e33,VV];subst hN;left;simp only [VV];refine ⟨by decide,a2e (w3 _ _ _) ?_⟩;simp only [b3N,VV];refine ⟨rfl,?_⟩;subst hN;left;simp only [VV];subst hN;left;simp only [VV];have hs:E.isStep=false:=by cases q:E.isStep with | false=>rfl | true=>rw [q] at st;cases st
  rw [hs] at he;refine ⟨cD C,C,f,p,F,n,false,rfl,ChD.of _ C,hF,?_⟩;rw [he];subst hN;left;simp only [oD,a0s,b8c,VV];refine ⟨by decide +kernel,?_⟩;subst hN;left;simp only [VV]
  (try dsimp only);refine D9 fun N2 hN2=>?_;simp only [hi,List.length_map,VV];refine ⟨by right,?_⟩;subst hN2;have q:Q (.tup [nD g,.int 0,.int ((e.toNat:Nat):Int),.int ((c + E.cost:Nat):Int)]) (h.set i (.lst ((o ++ [(f,E)]).map opD))):=q;rw [Int.toNat_of_nonneg e0,Int.natCast_add,List.map_append] at q;have hb:br ii d e=true:=by have hb:=hb;unfold Edge.tab at hb;rw [hk] at hb;exact hb
  have mo:(List.map opD [(f,E)])=[.tup [nD f,.tup [.str "call",nD E.p,nD E.q,nD E.cost,nD g,tD ii,tD b,tD v]]]:=by rw [<- a1S hk];rfl
  rw [mo] at q;rw [a1S hk];simp only [VV];refine ⟨_,_,_,d,e,rfl,t1,G6,hd,?_⟩;rw [hb];simp only [VV];exact q
 |@out f p d c hm o e E ii b v F' hF' hp' hk hb =>
  have hF:C[f]?=some F:=hF;rw [hF] at hF';cases hF'
  have lz:(((List.map opD (o' ++ [(hm,E)])).length:Int) == 0)=false:=by rw [List.map_append,List.length_append];simp;omega
  have pz:((p:Int) == (F.places:Int) - 1)=true:=by rw [O3];exact decide_eq_true hp'
  simp only [gmD,e22,VV];subst hN;left;simp only [VV];refine ⟨by decide,a2e (w2 _ _) ?_⟩;simp only [b9k,VV];refine ⟨rfl,?_⟩;subst hN;left;simp only [VV]
  (try dsimp only);refine D9 fun N2 hN2=>?_;simp only [p6 (v8 hi),ix3,lz,fD,M2,pz,VV];subst hN2
  (try dsimp only);refine D9 fun N3 hN3=>?_;have mo:(o' ++ [(hm,E)]).map opD=o'.map opD ++ [.tup [nD hm,eD E]]:=by rw [List.map_append];rfl
  rw [mo] at hi;simp only [hi,b3f,b2P,VV];refine ⟨trivial,?_⟩;subst hN3;rw [a1S hk];simp only [VV];obtain ⟨H,hH,hE⟩:=oo (hm,E) (List.mem_append_right _ List.mem_cons_self);obtain ⟨_,o2,_,_,o5⟩:=(wf.fn hm H hH).2.2.2.2.2 E hE;rw [hk] at o5;obtain ⟨G,hG,t1,t2,t3⟩:=o5;rw [hF] at hG;cases hG;refine ⟨_,_,_,d,e,rfl,t2,(wf.fn hm H hH).2.2.2.1,hd,?_⟩;rw [hb];simp only [VV];have e0:0 <= e:=by unfold br at hb;rw [Bool.and_eq_true] at hb;exact of_decide_eq_true hb.1
  have q:Q (.tup [nD hm,nD E.q,.int ((e.toNat:Nat):Int),nD c]) (h.set i (.lst (o'.map opD))):=q;rw [Int.toNat_of_nonneg e0] at q;exact q
theorem b3K{f:Addr}{fd:FuncData}(F:Fun K "_law_moved" "_law_moved" a9m f fd)(T:Txt P w K mg)(C_q1:Cal P w K mg base 1 "_law_brings" ["_law_table_here","_law_one","_law_other"] (spD K 3 Z1))(C_q7:Cal P w K mg base 1 "_law_edge_of" ["_law_chart_here","_law_f","_law_n","_law_sort","_law_p"] (spD K 5 a2M)):u7 P w K mg base CX0 2 f fd ["_law_chart_here","_law_here","_law_opened","_law_move"] (spD K 4 a4M) :=
 z8 (k:=1) (b:=a7B) F sc_q11 (fun cdv A outer s H E hr=>by
  refine b9 ?_ ?_
  ·exact Y0 (sv 1) (P6 rfl (u6 (j9 (i:=4) sc_q11.nd rfl (Or.inl rfl)) (u6 (j9 (i:=5) sc_q11.nd rfl (Or.inl rfl)) (u6 (j9 (i:=6) sc_q11.nd rfl (Or.inl rfl)) (u6 (j9 (i:=7) sc_q11.nd rfl (Or.inl rfl)) K8)))))
  refine b9 ?_ ?_
  ·refine p7 ?_ (d0 (g9 l7)) g6;exact F1 (B8 (A9 (o8 (G0 (by decide) rfl T.b_isinstance (sv 3) (J4 (v:=.ty "tuple") rfl T.b_tuple PyProof.Rows.boot_tuple rfl)))) (B7 (e7 (E9 hr.units) (f9 n8 rfl T.b_len PySem.boot_len (a7 (sv 3) b8)) (c7 c6 (C9 (t7 (a7 a9 (a7 a9 b8)))) (z7 J8 rfl T.b_int PyProof.Rows.boot_int (a7 (E5 (o7 hr.units) (c7 c6 (sv 3) a9) f8) b8))))))
  refine b9 ?_ ?_
  ·refine p7 ?_ (d0 (g9 l7)) g6;exact e7 a2w Y2 (C9 (F4 rfl (N':= ["_law_thing"]) (js:=[none]) ⟨rfl,by decide +kernel,rfl,rfl,rfl⟩ (B9 (sv 3)) (fun s0 H0 fp=>⟨(j9 (i:=0) (show (["_law_thing"]:List Str).Nodup by decide +kernel) rfl (Or.inl rfl)),L9,(G0 (by decide) rfl T.b_isinstance (sv 0) (J4 (v:=.ty "bool") rfl T.b_bool PyProof.Rows.boot_bool rfl))⟩))) rfl
  refine b9 ?_ ?_
  ·refine p7 (e7 (o7 hr.units) (c7 c6 (sv 3) a9) f8) ?_ g6;refine b9 ?_ ?_
   ·refine p7 ?_ (d0 (g9 l7)) g6;exact F1 (B8 (e7 (o7 hr.units) (f9 n8 rfl T.b_len PySem.boot_len (a7 (sv 2) b8)) a9) (B7 (e7 (E9 hr.units) (sv 5) (g8 C8 (c7 c6 (c7 c6 (sv 0) (sv 4)) a9) a9))))
   refine b9 ?_ ?_
   ·exact Y0 (a8J (sv 2)) (P6 rfl (u6 (j9 (i:=8) sc_q11.nd rfl (Or.inl rfl)) (u6 (j9 (i:=9) sc_q11.nd rfl (Or.inl rfl)) K8)))
   refine d0 ?_;refine g9 ?_;exact R8 (o8 (f7 C_q1 (hr.mono (by decide)) rfl (a7 (c7 c6 (sv 9) a9) (a7 (sv 6) (a7 (c7 c6 (sv 3) a9) b8))))) (i8 (a7 (sv 8) (a7 (c7 c6 (sv 9) a9) (a7 (c7 c6 (sv 3) a9) (a7 (sv 7) b8))))) l7
  refine b9 ?_ ?_
  ·refine g7 (i:=9) ?_ ?_ ?_ ?_
   ·exact sc_q11.nd
   ·exact rfl
   ·exact Or.inl rfl
   exact f7 C_q7 (hr.mono (by decide)) rfl (a7 (sv 0) (a7 (sv 4) (a7 (c7 c6 (sv 3) a9) (a7 (c7 c6 (C9 (t7 (a7 f8 (a7 f8 b8)))) (z7 J8 rfl T.b_int PyProof.Rows.boot_int (a7 (E5 (o7 hr.units) (c7 c6 (sv 3) a9) f8) b8))) (a7 (sv 5) b8)))))
  refine b9 ?_ ?_
  ·refine p7 ?_ (d0 (g9 l7)) g6;exact F1 (B8 (e7 J1 (sv 9) l7) (B7 (e7 a2h (c7 c6 (sv 3) a9) (i8 (a7 f8 (a7 f8 (a7 f8 b8)))) rfl)))
  refine b9 ?_ ?_
  ·refine p7 (e7 (o7 hr.units) (c7 c6 (sv 3) a9) f8) ?_ g6;refine b9 ?_ ?_
   ·exact B5 (z5 (sv 2) (a7 (i8 (a7 (sv 4) (a7 (sv 9) b8))) b8))
   refine d0 ?_;refine g9 ?_;exact R8 (o8 (f7 C_q1 (hr.mono (by decide)) rfl (a7 (c7 c6 (sv 9) a9) (a7 (sv 6) (a7 (c7 c6 (sv 3) a9) b8))))) (i8 (a7 (c7 c6 (sv 9) a9) (a7 a9 (a7 (c7 c6 (sv 3) a9) (a7 (g8 m7 (sv 7) (c7 c6 (sv 9) a9)) b8))))) l7
  refine d0 ?_;refine g9 ?_;exact R8 (o8 (f7 C_q1 (hr.mono (by decide)) rfl (a7 (c7 c6 (sv 9) (a0v S7 a9)) (a7 (sv 6) (a7 (c7 c6 (sv 3) a9) b8))))) (i8 (a7 (sv 4) (a7 (c7 c6 (sv 9) a9) (a7 (c7 c6 (sv 3) a9) (a7 (g8 m7 (sv 7) (c7 c6 (sv 9) a9)) b8))))) l7) b0M
def a8F:DS:=(d8 (j8 (dTk c8) (d7 4))
  (d8 (j8 (dTk c8) (d7 5))
  (d8 (j8 (l8 a1V (a8 (b7 2) c8)) (d7 6))
  (d8 (O5 (G2 (b7 3)) (d7 7) (d8 (j8 (l8 S2 (a8 (b7 0) (a8 (b7 7) c8))) (d7 8))
  (d8 (j8 (l8 u9 (a8 (b7 8) (a8 (dOp pIx (dV (a8 (dC (.int 9)) (a8 (dC (.int 3)) c8))) (dCB W5 (a8 (dOp pIx (b7 8) (dC (.int 2))) c8))) c8))) (d7 9))
  (d8 (j8 (l8 u9 (a8 (b7 8) (a8 (dCB A0 (a8 (b7 1) c8)) c8))) (d7 10))
  (d8 (j8 (t9 (a8 (dC (.str "begin")) (a8 (b7 10) (a8 (l8 u9 (a8 (b7 8) (a8 (dOp pIx (dOp pIx (b7 1) (b7 10)) (dC (.int 1))) c8))) c8)))) (d7 11))
  (d8 (o9 (O7 (k7 (dOp pGt (dCB A0 (a8 (b7 6) c8)) (dC (.int 0)))) (dOr (k7 (dOp (pEq false) (b7 9) (dC (.int 1)))) (O7 (k7 (dOp (pEq false) (dCB A0 (a8 (b7 4) c8)) (dC (.int 0)))) (k7 (dOp pGt (b7 9) (dC (.int 1))))))) (j8 (t9 (a8 (dC (.str "start")) (a8 (dOp pIx (b7 6) (l8 u9 (a8 (b7 8) (a8 (dCB A0 (a8 (b7 6) c8)) c8)))) c8))) (d7 11)) k6)
  (d8 (o9 (O7 (k7 (dOp pGt (b7 9) (dC (.int 1)))) (k7 (dOp pGt (dCB A0 (a8 (b7 4) c8)) (dC (.int 0))))) (d8 (j8 (l8 u9 (a8 (b7 8) (a8 (dCB A0 (a8 (b7 4) c8)) c8))) (d7 12))
  (d8 (o9 (M3 (dTr (dOp pIx (b7 8) (dC (.int 2))))) (j8 (dOp M2 (dOp M2 (dCB A0 (a8 (b7 4) c8)) (dC (.int 1))) (dOp a0f (dOp a0f (b7 12) (dC (.int 5))) (dCB A0 (a8 (b7 4) c8)))) (d7 12)) k6)
  (d8 (j8 (l8 a4n (a8 (b7 1) (a8 (b7 5) (a8 (b7 12) c8)))) (d7 13))
  (o9 (k7 (dOp pGt (dCB A0 (a8 (b7 13) c8)) (dC (.int 0)))) (j8 (dOp pIx (b7 13) (l8 u9 (a8 (b7 8) (a8 (dCB A0 (a8 (b7 13) c8)) c8)))) (d7 11)) k6)))) k6)
  (d8 (F2 (B6 (b7 4) (a8 (b7 11) c8)))
  (F2 (B6 (b7 5) (a8 (l8 b1p (a8 (b7 1) (a8 (b7 2) (a8 (b7 5) (a8 (b7 11) c8))))) c8)))))))))))
  (l9 (t9 (a8 (b7 4) (a8 (b7 5) c8))))))))
theorem a7s{C:i9}{cs:List Clm}{F:Fn}{st d:Nat}(hF:C[0]?=some F)(h2:st < 2 ^ F.facts)(hd:d ∈ v7 st):i6 C st cs (.start d)=some (.at 0 0 d 0):=by
 have hb:=(b1F hd).1
 have hl:d < F.facts:=by
  rcases Nat.lt_or_ge d F.facts with z | z
  ·exact z
  ·rw [Nat.testBit_lt_two_pow (Nat.lt_of_lt_of_le h2 (Nat.pow_le_pow_right (by decide) z))] at hb;cases hb
 simp only [i6,hF];rw [if_pos (by right)];show (if ((d:Nat):Int) < F.facts/\st.testBit ((d:Nat):Int).toNat=true then some (Clm.at 0 0 ((d:Nat):Int).toNat 0) else none)=_;rw [Int.toNat_natCast,if_pos ⟨by right,hb⟩]
def pH(h:Hh)(rs:List Row)(cs:List Clm)(g:Hh):Hh:=h ++ (.lst (rs.map rD) :: .lst (cs.map clD) :: g)
theorem b3J(h:Hh)(rs:List Row)(cs:List Clm)(g:Hh):(pH h rs cs g)[h.length]?=some (.lst (rs.map rD)):=by
 unfold pH;rw [List.getElem?_append_right (Nat.le_refl _)];simp
theorem a8U(h:Hh)(rs:List Row)(cs:List Clm)(g:Hh):(pH h rs cs g)[h.length + 1]?=some (.lst (cs.map clD)):=by
 unfold pH;rw [List.getElem?_append_right (by right),show h.length + 1 - h.length=1 by right];rfl
theorem b7l(h:Hh)(rs:List Row)(cs:List Clm)(g:Hh)(r:Row):(pH h rs cs g).set h.length (.lst (rs.map rD ++ [rD r]))=pH h (rs ++ [r]) cs g:=by
 unfold pH;rw [List.set_append_right _ _ (Nat.le_refl _)];simp
theorem b8h(h:Hh)(rs:List Row)(cs:List Clm)(g:Hh)(c:Clm):(pH h rs cs g).set (h.length + 1) (.lst (cs.map clD ++ [clD c]))=pH h rs (cs ++ [c]) g:=by
 unfold pH;rw [List.set_append_right _ _ (by right),show h.length + 1 - h.length=1 by right];simp
theorem b5V(h:Hh)(rs:List Row)(cs:List Clm)(g:Hh)(o:O):pH h rs cs g ++ [o]=pH h rs cs (g ++ [o]):=by unfold pH;simp
theorem b9n(h:Hh)(rs:List Row)(cs:List Clm)(g:Hh):Pre h (pH h rs cs g):=Pre.app _ _
def a4R:DSp:=fun ds h Q=>∃ (ns:List Int) (C:i9) (st:Nat) (F0:Fn) (ms:List Nat),ds=[.scr (ns.map .int),cD C,nD st,.lst (ms.map nD)]/\ns.length <= 63/\(∀ x ∈ ns,Builtin.Int.intBits x <= 1048576)/\WF C/\C[0]?=some F0/\st < 2 ^ F0.facts/\ms.length <= 200/\(∀ x ∈ ms,x <= 1000)/\∀ rs cs ws vs,rs.length <= 200->PR C st rs cs ws vs->Q (.tup [.lst (rs.map rD),.lst (cs.map clD)]) h
theorem b1z:∀ ds h Q,a4R ds h Q->k8 14 a8F ds h (Dr h Q):=by
 rintro ds h Q ⟨ns,C,st,F0,ms,rfl,hl,hb,wf,hF0,st2,hml,hmb,q⟩
 obtain ⟨_,_,f1,f6,_,_⟩:=wf.fn 0 F0 hF0;have lc:∀ h',a2Z h' (cD C)=some C.length:=fun h'=>(ChD.of h' C).len;have cpos:=wf.one;have csix:=wf.six;delta k8 q8 a8F;simp only [VS];left;simp only [VV];subst hN;left;simp only [VV];subst hN;left;simp only [VV];refine ⟨st,rfl,?_⟩;subst hN;left;simp only [VV];refine w5 (fun p δ h'=>∃ (rs:List Row) (cs:List Clm) (ws:List (List GM)) (vs:List Nat) (g:Hh) (x7 x8 x9 x10 x11 x12 x13:Option D),δ=[some (.scr (ns.map .int)),some (cD C),some (nD st),some (.lst (ms.map nD)),some (.ref h.length),some (.ref (h.length + 1)),some (.lst ((v7 st).map nD)),x7,x8,x9,x10,x11,x12,x13]/\h'=pH h rs cs g/\rs.length=p.length/\PR C st rs cs ws vs/\∀ c ∈ cs,Q6 C c) ⟨[],[],[],[],[],none,none,none,none,none,none,none,?_,?_,rfl,.nil,fun _ h=>nomatch h⟩ (fun _ _ _ _=>Src.ok_nil) ?_ ?_
 ·simp
 ·unfold pH;simp
 ·rintro p m r' δ h' N1 e ⟨rs,cs,ws,vs,g,x7,x8,x9,x10,x11,x12,x13,rfl,rfl,hrl,pr,ok⟩ hN1
  have csl:=pr.lens.1;have pl:p.length < ms.length:=by rw [e];simp
  have mm:m <= 1000:=hmb m (by rw [e];simp);simp only [VV];left;simp only [VV];refine ⟨ns,m,rfl,hl,hb,mm,fun y s b y0=>?_⟩;have l0:∀ o:O,w6 (pH h rs cs g ++ [o]) (.ref h.length)=some (rs.map rD):=fun o=>by rw [b5V];exact v8 (b3J ..)
  have l1:∀ o:O,w6 (pH h rs cs g ++ [o]) (.ref (h.length + 1))=some (cs.map clD):=fun o=>by rw [b5V];exact v8 (a8U ..)
  have ls:∀ y s:Int,w6 (pH h rs cs g ++ [stO y s b]) (.ref (pH h rs cs g).length)=some [.int y,.int s,.bl b]:=fun y s=>v8 (t8 ..);subst hN;left
  obtain ⟨mx,e4,m1,m2⟩:∃ mx:Int,atI [D.int 9,D.int 3] (if b=true then 1 else 0)=some (.int mx)/\0 < mx/\mx <= 9:=by
   cases b with
   |true=>exact ⟨3,rfl,by decide,by decide⟩
   |false=>exact ⟨9,rfl,by decide,by decide⟩
  simp only [r9 (ls _ _),e4,VV];refine ⟨_,y,s,mx,b,rfl,t8 ..,y0,⟨m1,by right⟩,fun y1 s1 kd y10 hkd=>?_⟩;rw [A2];subst hN;left;simp only [lc,VV];refine ⟨_,y1,s1,_,b,rfl,t8 ..,y10,⟨by right,by right⟩,fun y2 s2 f y20 hf=>?_⟩;rw [A2];obtain ⟨F3,hF3⟩:∃ d,C[f]?=some d:=⟨_,List.getElem?_eq_getElem (by right)⟩
  have ix3:∀ h',ixD h' (cD C) (nD f)=some (fD F3):=fun h'=>by
   show atI (C.map fD) (f:Int)=_;rw [atN,List.getElem?_map,hF3];rfl
  have f3:=(wf.fn f F3 hF3).2.2.1;have f36:=(wf.fn f F3 hF3).2.2.2.1;subst hN;left;simp only [ix3,fD,VV];refine ⟨_,y2,s2,_,b,rfl,t8 ..,y20,⟨by right,by right⟩,fun y3 s3 j3 y30 hj3=>?_⟩;rw [A2];have ok0:R9 C st cs (.begin f j3):=⟨_,a2A st hF3 (by right)⟩
  subst hN;left
  have mid:∀ (y s:Int) (r:Row),0 <= y->R9 C st cs r->N [some (.scr (ns.map .int)),some (cD C),some (nD st),some (.lst (ms.map nD)),some (.ref h.length),some (.ref (h.length + 1)),some (.lst ((v7 st).map nD)),some (nD m),some (.ref (pH h rs cs g).length),some (nD kd),some (nD f),some (rD r),x12,x13] (pH h rs cs g ++ [stO y s b]):=by
   intro y s r y0 okr;subst hN;left
   have fin':∀ (y s:Int) (r:Row) (x12 x13:Option D),R9 C st cs r->N [some (.scr (ns.map .int)),some (cD C),some (nD st),some (.lst (ms.map nD)),some (.ref h.length),some (.ref (h.length + 1)),some (.lst ((v7 st).map nD)),some (nD m),some (.ref (pH h rs cs g).length),some (nD kd),some (nD f),some (rD r),x12,x13] (pH h rs cs g ++ [stO y s b]):=by
    rintro y s r x12 x13 ⟨c9,hc9⟩
    rw [b5V];subst hN;left;simp only [b3J,b7l,List.length_map,VV];refine ⟨by right,?_⟩;subst hN;simp only [a8U,VV];refine ⟨cD C,.ref (h.length + 1),C,cs,st,F0,r,rfl,ChD.of _ C,wf,v8 (a8U ..),ok,hF0,st2,?_⟩;simp only [a8U,hc9,oD,b8h,List.length_map,VV];refine ⟨by right,hN1 _ _ ⟨rs ++ [r],cs ++ [c9],_,_,_,_,_,_,_,_,_,_,rfl,rfl,by simp;omega,.snoc pr hc9,fun c hc'=>?_⟩⟩
    rcases List.mem_append.mp hc' with z | z
    ·exact ok c z
    ·rw [List.mem_singleton.mp z];exact a2D wf ok hc9
   by_cases k1:(1:Int) < (kd:Int)
   ·by_cases r0:(0:Int) < ((rs.map rD).length:Int)
    ·simp only [k1,p6 (l0 _),r0,VV]
     (try dsimp only);refine D9 fun N2 hN2=>?_;simp only [p6 (l0 _),VV];rw [List.length_map] at r0 ⊢;refine ⟨_,y,s,_,b,rfl,t8 ..,y0,⟨by right,by right⟩,fun y5 s5 j5 y50 hj5=>?_⟩;rw [A2];subst hN2
     (try dsimp only);refine D9 fun N3 hN3=>?_
     have more:∀ (kk:Nat),kk < rs.length->N3 [some (.scr (ns.map .int)),some (cD C),some (nD st),some (.lst (ms.map nD)),some (.ref h.length),some (.ref (h.length + 1)),some (.lst ((v7 st).map nD)),some (nD m),some (.ref (pH h rs cs g).length),some (nD kd),some (nD f),some (rD r),some (nD kk),x13] (pH h rs cs g ++ [stO y5 s5 b]):=by
      intro kk hkk;subst hN3;obtain ⟨one,ho⟩:∃ d,cs[kk]?=some d:=⟨_,List.getElem?_eq_getElem (by right)⟩
      (try dsimp only);refine D9 fun N4 hN4=>?_;simp only [VV];refine ⟨cD C,.ref (h.length + 1),C,cs,st,kk,one,rfl,ChD.of _ C,wf,l1 _,by right,ok,ho,fun rs6 hl6 ok6=>?_⟩;subst hN4;simp only [List.length_map,VV]
      by_cases l6:0 < (rs6.length:Int)
      ·simp only [l6,VV];refine ⟨_,y5,s5,_,b,rfl,t8 ..,y50,⟨by right,by right⟩,fun y7 s7 j7 y70 hj7=>?_⟩;rw [A2];obtain ⟨r7,hr7⟩:∃ d,rs6[j7]?=some d:=⟨_,List.getElem?_eq_getElem (by right)⟩
       have ix7:atI (rs6.map rD) (j7:Int)=some (rD r7):=by rw [atN,List.getElem?_map,hr7];rfl
       simp only [ix7,VV];exact fin' _ _ _ _ _ (ok6 _ (List.mem_of_getElem? hr7))
      ·simp only [l6,VV];exact fin' _ _ _ _ _ okr
     cases b with
     |true =>
      simp only [r9 (ls _ _),VV];exact more j5 (by right)
     |false =>
      simp only [r9 (ls _ _),p6 (l0 _),List.length_map,VV];have a0:=Int.emod_nonneg ((j5:Int) % 5) (show (rs.length:Int) ≠ 0 by right);have a1:=Int.emod_lt_of_pos ((j5:Int) % 5) (show (0:Int) < rs.length by right);refine ⟨by decide,r0,?_⟩;rw [show (rs.length:Int) - 1 - (j5:Int) % 5 % (rs.length:Int)=(((rs.length:Int) - 1 - (j5:Int) % 5 % (rs.length:Int)).toNat:Int) by right];exact more _ (by right)
    ·simp only [k1,p6 (l0 _),r0,VV];exact fin' _ _ _ _ _ okr
   ·simp only [k1,VV];exact fin' _ _ _ _ _ okr
  have lf:((v7 st).map nD).length=(v7 st).length:=List.length_map ..
  by_cases fp:(0:Int) < ((v7 st).length:Int)
  ·have started:u9 [D.ref (List.length (pH h rs cs g)),D.int ((v7 st).length:Int)] (pH h rs cs g ++ [stO y3 s3 b]) fun y h2=>match ixD h2 (D.lst (List.map nD (v7 st))) y with
     |some d=>N [some (D.scr (List.map D.int ns)),some (cD C),some (nD st),some (D.lst (List.map nD ms)),some (D.ref (List.length h)),some (D.ref (List.length h + 1)),some (D.lst (List.map nD (v7 st))),some (nD m),some (D.ref (List.length (pH h rs cs g))),some (nD kd),some (nD f),some (D.tup [D.str "start",d]),x12,x13] h2
     |none=>False:=by
    refine ⟨_,y3,s3,_,b,rfl,t8 ..,y30,⟨fp,by have:=a1E st;omega⟩,fun y4 s4 j4 y40 hj4=>?_⟩;rw [A2];obtain ⟨d1,hd1⟩:∃ d,(v7 st)[j4]?=some d:=⟨_,List.getElem?_eq_getElem (by right)⟩
    have a1:atI ((v7 st).map nD) (j4:Int)=some (nD d1):=by rw [atN,List.getElem?_map,hd1];rfl
    simp only [a1,VV];exact mid _ _ (.start d1) y40 ⟨_,a7s hF0 st2 (List.mem_of_getElem? hd1)⟩
   by_cases k1:((kd:Int) == 1)=true
   ·simp only [lf,fp,k1,VV];exact started
   ·by_cases r0:(((rs.map rD).length:Int) == 0)=true
    ·by_cases k2:(1:Int) < (kd:Int)
     ·simp only [lf,fp,k1,p6 (l0 _),r0,k2,VV];exact started
     ·simp only [lf,fp,k1,p6 (l0 _),r0,k2,VV];exact mid _ _ (.begin f j3) y30 ok0
    ·simp only [lf,fp,k1,p6 (l0 _),r0,VV];exact mid _ _ (.begin f j3) y30 ok0
  ·simp only [lf,fp,VV];exact mid _ _ (.begin f j3) y30 ok0
 ·rintro δ h' ⟨rs,cs,ws,vs,g,x7,x8,x9,x10,x11,x12,x13,rfl,rfl,hrl,pr,ok⟩
  subst hN;simp only [VV];refine ⟨h,.lst (rs.map rD) :: .lst (cs.map clD) :: g,.tup [.lst (rs.map rD),.lst (cs.map clD)],rfl,rfl,fun _ _ e=>.inl e,.tup (.cons (.opn (Nat.le_refl _) (b3J h rs cs g) (.of (E6 a6U rs))) (.cons (.opn (by right) (a8U h rs cs g) (.of (E6 b0B cs))) .nil)),q rs cs ws vs (by right) pr⟩
theorem b3E{f:Addr}{fd:FuncData}(F:Fun K "_law_paper" "_law_paper" a7y f fd)(T:Txt P w K mg)(C_q8:Cal P w K mg base 1 "_law_facts" ["_law_mask"] (spD K 1 a1V))(C_q18:Cal P w K mg base 2 "_law_state" ["_law_script","_law_k"] (spD K 2 S2))(C_q12:Cal P w K mg base 1 "_law_next" ["_law_state_here","_law_many_here"] (spD K 2 u9))(C_q16:Cal P w K mg base 3 "_law_rows_from" ["_law_chart_here","_law_done","_law_k"] (spD K 3 a4n))(C_q5:Cal P w K mg base 3 "_law_claim" ["_law_chart_here","_law_start","_law_done","_law_row"] (spD K 4 b1p)):u7 P w K mg base CX0 4 f fd ["_law_script","_law_chart_here","_law_start","_law_cells"] (spD K 4 a4R) :=
 L7 (k:=3) (b:=a8F) F sc_q14 (fun cdv A outer s H E hr=>by
  refine b9 ?_ ?_
  ·exact g7 (i:=4) sc_q14.nd rfl (Or.inl rfl) (S9 (t7 b8))
  refine b9 ?_ ?_
  ·exact g7 (i:=5) sc_q14.nd rfl (Or.inl rfl) (S9 (t7 b8))
  refine b9 ?_ ?_
  ·exact g7 (i:=6) sc_q14.nd rfl (Or.inl rfl) (f7 C_q8 (hr.mono (by decide)) rfl (a7 (sv 2) b8))
  refine b9 ?_ ?_
  ·refine J0 PassesOwn.never rfl (B9 (sv 3)) (j9 (i:=7) sc_q14.nd rfl (Or.inl rfl)) ?_;refine b9 ?_ ?_
   ·exact g7 (i:=8) sc_q14.nd rfl (Or.inl rfl) (f7 C_q18 (hr.mono (by decide)) rfl (a7 (sv 0) (a7 (sv 7) b8)))
   refine b9 ?_ ?_
   ·refine g7 (i:=9) ?_ ?_ ?_ ?_
    ·exact sc_q14.nd
    ·exact rfl
    ·exact Or.inl rfl
    exact f7 C_q12 (hr.mono (by decide)) rfl (a7 (sv 8) (a7 (c7 c6 (C9 (t7 (a7 a9 (a7 a9 b8)))) (z7 J8 rfl T.b_int PyProof.Rows.boot_int (a7 (c7 c6 (sv 8) a9) b8))) b8))
   refine b9 ?_ ?_
   ·refine g7 (i:=10) sc_q14.nd rfl (Or.inl rfl) ?_;exact f7 C_q12 (hr.mono (by decide)) rfl (a7 (sv 8) (a7 (f9 n8 rfl T.b_len PySem.boot_len (a7 (sv 1) b8)) b8))
   refine b9 ?_ ?_
   ·refine g7 (i:=11) ?_ ?_ ?_ ?_
    ·exact sc_q14.nd
    ·exact rfl
    ·exact Or.inl rfl
    refine i8 (n:=3) ?_;refine a7 f8 ?_;refine a7 (sv 10) ?_;refine a7 ?_ b8;exact f7 C_q12 (hr.mono (by decide)) rfl (a7 (sv 8) (a7 (c7 c6 (c7 c6 (sv 1) (sv 10)) a9) b8))
   refine b9 ?_ ?_
   ·refine p7 ?_ ?_ g6
    ·exact F1 (E3 (e7 N9 (f9 n8 rfl T.b_len PySem.boot_len (a7 (sv 6) b8)) a9) (E1 (F1 (B8 (e7 (o7 hr.units) (sv 9) a9) (B7 (F1 (E3 (e7 (o7 hr.units) (f9 n8 rfl T.b_len PySem.boot_len (a7 (sv 4) b8)) a9) (E1 (e7 N9 (sv 9) a9)))))))))
    refine d0 ?_;refine g7 (i:=11) ?_ ?_ ?_ ?_
    ·exact sc_q14.nd
    ·exact rfl
    ·exact Or.inl rfl
    refine i8 (n:=2) ?_;refine a7 f8 ?_;refine a7 ?_ b8;exact c7 c6 (sv 6) (f7 C_q12 (hr.mono (by decide)) rfl (a7 (sv 8) (a7 (f9 n8 rfl T.b_len PySem.boot_len (a7 (sv 6) b8)) b8)))
   refine b9 ?_ ?_
   ·refine p7 ?_ ?_ g6
    ·exact F1 (E3 (e7 N9 (sv 9) a9) (E1 (e7 N9 (f9 n8 rfl T.b_len PySem.boot_len (a7 (sv 4) b8)) a9)))
    refine b9 ?_ ?_
    ·refine g7 (i:=12) sc_q14.nd rfl (Or.inl rfl) ?_;exact f7 C_q12 (hr.mono (by decide)) rfl (a7 (sv 8) (a7 (f9 n8 rfl T.b_len PySem.boot_len (a7 (sv 4) b8)) b8))
    refine b9 ?_ ?_
    ·refine p7 (A9 (o8 (c7 c6 (sv 8) a9))) ?_ g6;refine d0 ?_;refine g7 (i:=12) sc_q14.nd rfl (Or.inl rfl) ?_;exact g8 C8 (g8 C8 (f9 n8 rfl T.b_len PySem.boot_len (a7 (sv 4) b8)) a9) (g8 M0 (g8 M0 (sv 12) a9) (f9 n8 rfl T.b_len PySem.boot_len (a7 (sv 4) b8)))
    refine b9 ?_ ?_
    ·refine g7 (i:=13) sc_q14.nd rfl (Or.inl rfl) ?_;exact f7 C_q16 (hr.mono (by decide)) rfl (a7 (sv 1) (a7 (sv 5) (a7 (sv 12) b8)))
    refine d0 ?_;refine p7 ?_ ?_ g6
    ·exact e7 N9 (f9 n8 rfl T.b_len PySem.boot_len (a7 (sv 13) b8)) a9
    refine d0 ?_;refine g7 (i:=11) sc_q14.nd rfl (Or.inl rfl) ?_;exact c7 c6 (sv 13) (f7 C_q12 (hr.mono (by decide)) rfl (a7 (sv 8) (a7 (f9 n8 rfl T.b_len PySem.boot_len (a7 (sv 13) b8)) b8)))
   refine b9 (B5 (z5 (sv 4) (a7 (sv 11) b8))) ?_;refine d0 ?_;refine B5 ?_;exact z5 (sv 5) (a7 (f7 C_q5 (hr.mono (by decide)) rfl (a7 (sv 1) (a7 (sv 2) (a7 (sv 5) (a7 (sv 11) b8))))) b8)
  refine d0 ?_;refine g9 ?_;exact i8 (a7 (sv 4) (a7 (sv 5) b8))) b1z
def a8P:DS:=(d8 (o9 (dOr (M3 (dTr (G3 "tuple" (b7 2)))) (dOr (k7 (dOp (pEq true) (dCB A0 (a8 (b7 2) c8)) (dC (.int 2)))) (dOr (M3 (dTr (G3 "list" (dOp pIx (b7 2) (dC (.int 1)))))) (k7 (dOp (pEq true) (dCB A0 (a8 (dOp pIx (b7 2) (dC (.int 1))) c8)) (b7 4)))))) (l9 (dC (.bl false))) k6)
  (d8 (o9 (dOr (M3 (dTr (G3 "int" (dOp pIx (b7 2) (dC (.int 0)))))) (dTr (G3 "bool" (dOp pIx (b7 2) (dC (.int 0)))))) (l9 (dC (.bl false))) k6)
  (d8 (o9 (dOr (M3 (k7 (D6 pLe Q4 (dC (.int 0)) (dOp pIx (b7 2) (dC (.int 0))) (dC (.int 6))))) (k7 (dOp (pEq false) (dOp R7 (dOp a2i (b7 1) (dOp pIx (b7 2) (dC (.int 0)))) (dC (.int 1))) (dC (.int 0))))) (l9 (dC (.bl false))) k6)
  (d8 (j8 (t9 (a8 (dC (.int 0)) (a8 (dC (.int 0)) (a8 (dOp pIx (b7 2) (dC (.int 0))) (a8 (dC (.int 0)) c8))))) (d7 5))
  (d8 (j8 (dTk c8) (d7 6))
  (d8 (O5 (G2 (dOp pIx (b7 2) (dC (.int 1)))) (d7 7) (d8 (j8 (l8 a4M (a8 (b7 0) (a8 (b7 5) (a8 (b7 6) (a8 (b7 7) c8))))) (d7 5))
  (o9 (k7 (dOp (pIs false) (b7 5) (dC .non))) (l9 (dC (.bl false))) k6)))
  (l9 (dOp (pEq false) (dOp u0 (t9 (a8 (dC (.str "at")) c8)) (b7 5)) (b7 3)))))))))
def a1h:DSp:=fun ds h Q=>∃ (C:i9) (st a:Nat) (w:List GM) (f p d x:Nat) (o:Opn) (F:Fn),ds=[cD C,nD st,.tup [nD a,.lst (w.map gmD)],clD (.at f p d x),nD w.length]/\WF C/\C[0]?=some F/\a < F.facts/\st.testBit a=true/\w.length <= 400/\Walk C ⟨0,0,a,0⟩ [] w ⟨f,p,d,x⟩ o/\Q (.bl true) h
theorem Walk.len{C:i9}{s o g s1 o1}(h:One C s o g s1 o1):o1.length <= o.length + 1:=by
 cases h with
 |mv=>omega
 |inn=>simp
 |out=>simp;omega
theorem b0R:∀ ds h Q,a1h ds h Q->k8 8 a8P ds h (Dr h Q):=by
 rintro ds h Q ⟨C,st,a,w,f,p,d,x,o,F,rfl,wf,hF,ha,hb,wl,wk,q⟩
 have F6:=(wf.fn 0 F hF).2.2.2.1;have e1:(((w.map gmD).length:Int) == (w.length:Int))=true:=by rw [List.length_map];exact beq_self_eq_true _
 delta k8 q8 a8P;simp only [VS];left;simp only [e22,e1,VV];subst hN;left;simp only [VV];subst hN;left;have a0:(0:Int) <= (a:Int):=by right
 have a6:(a:Int) < 6:=by right
 have bz:(Builtin.bitAnd ((st:Int) / 2 ^ ((a:Int)).toNat) 1 == 0)=false:=by rw [Int.toNat_natCast,b4P,hb];rfl
 simp only [a0,a6,bz,VV];refine ⟨trivial,?_⟩;subst hN;left;simp only [VV];subst hN;left;simp only [VV];subst hN;left;simp only [VV];refine w5 (fun pp δ h'=>∃ (s:Spt) (o1:Opn) (rest:List GM) (x7:Option D),δ=[some (cD C),some (nD st),some (.tup [nD a,.lst (w.map gmD)]),some (clD (.at f p d x)),some (nD w.length),some (a5v s),some (.ref h.length),x7]/\h'=h ++ [.lst (o1.map opD)]/\w=pp ++ rest/\b0z C s/\b2b C o1/\o1.length <= pp.length/\Walk C s o1 rest ⟨f,p,d,x⟩ o) ⟨⟨0,0,a,0⟩,[],w,none,rfl,rfl,rfl,⟨F,hF,(wf.fn 0 F hF).1,ha⟩,(fun _ hx=>nomatch hx),Nat.le_refl _,wk⟩ (fun _ _ _ _=>Src.ok_nil) ?_ ?_
 ·rintro pp g r δ h' N1 e ⟨s,o1,rest,x7,rfl,rfl,e2,so,oo,ol,wk⟩ hN1
  have pl:pp.length < w.length:=by rw [e];simp
  have er:rest=g :: r:=List.append_cancel_left (e2.symm.trans e);subst er
  cases wk with
  |@cons _ _ _ s1 o2 _ _ _ one wk =>
   obtain ⟨so1,oo1⟩:=one.ok wf so oo;have ol1:=Walk.len one;simp only [VV];left;simp only [VV];refine ⟨C,s,s1,o1,o2,h.length,g,rfl,wf,so,oo,t8 ..,by right,one,?_⟩;rw [A2];subst hN;simp only [a5v,VV];refine hN1 _ _ ⟨s1,o2,r,_,rfl,rfl,by rw [e];simp,so1,oo1,by simp;omega,wk⟩
 ·rintro δ h' ⟨s,o1,rest,x7,rfl,rfl,e2,so,oo,ol,wk⟩
  have er:rest=[]:=by
   have:=congrArg List.length e2
   rw [List.length_append] at this;exact List.length_eq_zero_iff.mp (by right)
  subst er;cases wk;subst hN;simp only [a5v,clD,VV1];refine ⟨by simp,by decide,?_⟩;exact T9 rfl (b2W _ (.at f p d x)) (b2W _ (.at f p d x)) (by decide) (Dr.drop rfl q)
theorem b4q{f:Addr}{fd:FuncData}(F:Fun K "_law_walks" "_law_walks" a7U f fd)(T:Txt P w K mg)(C_q11:Cal P w K mg base 2 "_law_moved" ["_law_chart_here","_law_here","_law_opened","_law_move"] (spD K 4 a4M)):u7 P w K mg base CX0 3 f fd ["_law_chart_here","_law_start","_law_found","_law_claim_here","_law_many_here"] (spD K 5 a1h) :=
 L7 (k:=2) (b:=a8P) F sc_q20 (fun cdv A outer s H E hr=>by
  refine b9 ?_ ?_
  ·refine p7 ?_ (d0 (g9 Y2)) g6;exact F1 (B8 (A9 (o8 (G0 (by decide) rfl T.b_isinstance (sv 2) (J4 (v:=.ty "tuple") rfl T.b_tuple PyProof.Rows.boot_tuple rfl)))) (B8 (e7 (E9 hr.units) (f9 n8 rfl T.b_len PySem.boot_len (a7 (sv 2) b8)) a9) (B8 (A9 (o8 (G0 (by decide) rfl T.b_isinstance (c7 c6 (sv 2) a9) (J4 (v:=.ty "list") rfl T.b_list PyProof.Rows.boot_list rfl)))) (B7 (e7 (E9 hr.units) (f9 n8 rfl T.b_len PySem.boot_len (a7 (c7 c6 (sv 2) a9) b8)) (sv 4))))))
  refine b9 ?_ ?_
  ·refine p7 ?_ (d0 (g9 Y2)) g6;exact F1 (B8 (A9 (o8 (G0 (by decide) rfl T.b_isinstance (c7 c6 (sv 2) a9) (J4 (v:=.ty "int") rfl T.b_int PyProof.Rows.boot_int rfl)))) (B7 (o8 (G0 (by decide) rfl T.b_isinstance (c7 c6 (sv 2) a9) (J4 (v:=.ty "bool") rfl T.b_bool PyProof.Rows.boot_bool rfl)))))
  refine b9 ?_ ?_
  ·refine p7 ?_ (d0 (g9 Y2)) g6;exact F1 (B8 (A9 (B3 K5 F8 a9 (c7 c6 (sv 2) a9) a9)) (B7 (e7 (o7 hr.units) (g8 J5 (g8 S4 (sv 1) (c7 c6 (sv 2) a9)) a9) a9)))
  refine b9 ?_ ?_
  ·refine g7 (i:=5) ?_ ?_ ?_ ?_
   ·exact sc_q20.nd
   ·exact rfl
   ·exact Or.inl rfl
   refine i8 (n:=4) ?_;refine a7 a9 ?_;exact a7 a9 (a7 (c7 c6 (sv 2) a9) (a7 a9 b8))
  refine b9 ?_ ?_
  ·exact g7 (i:=6) sc_q20.nd rfl (Or.inl rfl) (S9 (t7 b8))
  refine b9 ?_ ?_
  ·refine J0 PassesOwn.never rfl (B9 (c7 c6 (sv 2) a9)) (j9 (i:=7) sc_q20.nd rfl (Or.inl rfl)) ?_;refine b9 ?_ ?_
   ·refine g7 (i:=5) sc_q20.nd rfl (Or.inl rfl) ?_;exact f7 C_q11 (hr.mono (by decide)) rfl (a7 (sv 0) (a7 (sv 5) (a7 (sv 6) (a7 (sv 7) b8))))
   refine d0 ?_;exact p7 (e7 J1 (sv 5) l7) (d0 (g9 Y2)) g6
  refine d0 ?_;refine g9 ?_;exact E5 (o7 hr.units) (g8 m7 (i8 (a7 f8 b8)) (sv 5)) (sv 3)) b0R
def a6L:DS:=(d8 (j8 (dC .non) (d7 5))
  (d8 (a7f K1 (a8 (b7 0) (a8 (b7 1) (a8 (b7 2) (a8 (b7 3) (a8 (b7 4) c8))))) "NoPaper" "TooLong" 6 (j8 (b7 6) (d7 5)))
  (d8 (o9 (dOr (k7 (dOp (pIs false) (b7 5) (dC .non))) (M3 (dTr (V4 "NoPaper" "TooLong" true true (b7 5))))) (l9 (t9 (a8 (dC (.str "none")) (a8 (dC (.int 0)) c8)))) k6)
  (d8 (o9 (dTr (V4 "NoPaper" "TooLong" false false (b7 5))) (l9 (t9 (a8 (dC (.str "other")) (a8 (dC (.int 0)) c8)))) k6)
  (d8 (o9 (k7 (dOp (pEq false) (V4 "NoPaper" "TooLong" false true (b7 5)) (V4 "NoPaper" "TooLong" true false (b7 5)))) (l9 (t9 (a8 (dC (.str "other")) (a8 (dC (.int 0)) c8)))) k6)
  (d8 (o9 (dTr (V4 "NoPaper" "TooLong" false true (b7 5))) (l9 (t9 (a8 (dC (.str "long")) (a8 (dC (.int 0)) c8)))) k6)
  (l9 (t9 (a8 (dC (.str "no")) (a8 (dXA "NoPaper" "row" (b7 5)) c8))))))))))
theorem b0m{ds:List D}{h:Hh}{Q Q2:DK}{X X2:DX}(u:K1 ds h Q X)(a:∀ d,Q d h->Q2 d h)(b:∀ cn fs,X cn fs h->X2 cn fs h):K1 ds h Q2 X2:=by
 obtain ⟨C,st,rs,cs,ws,vs,k,most,ua,y1,y2⟩:=u;refine ⟨C,st,rs,cs,ws,vs,k,most,ua,fun z=>b _ _ (y1 z),fun c w k0 hc hw=>?_⟩;have y:=y2 c w k0 hc hw
 cases c with
 |within=>exact b _ _ y
 |«at»=>exact ⟨fun z=>b _ _ (y.1 z),fun z a0 f=>a _ (y.2 z a0 f)⟩
inductive Rf(b:D):Str->List (Str×Int)->Prop
 |long:b = .tup [.str "long",.int 0]->Rf b "TooLong" []
 |no (k:Int):b = .tup [.str "no",.int k]->Rf b "NoPaper" [("row",k)]
def a2J:DSp:=fun ds h Q=>∃ (a1 a2 a3 a4 a5:D) (b:D),ds=[a1,a2,a3,a4,a5]/\K1 [a1,a2,a3,a4,a5] h (fun _ _=>False) (fun cn fs h'=>h'=h/\Rf b cn fs)/\Q b h
theorem b2y:∀ ds h Q,a2J ds h Q->k8 7 a6L ds h Q:=by
 rintro ds h Q ⟨a1,a2,a3,a4,a5,b,rfl,u,q⟩
 delta k8 q8 a6L;simp only [VS];left;simp only [VV];subst hN;left;simp only [VV];refine b0m u (fun _ y=>y.elim) (fun cn fs y=>?_);obtain ⟨_,y⟩:=y
 cases y with
 |long e =>
  refine ⟨.inr rfl,?_⟩;subst e;subst hN;left;simp only [VV];refine T7 (.inr ⟨trivial,?_⟩);subst hN;left;simp only [VV];refine .inr ⟨trivial,?_⟩;subst hN;left;simp only [VV];refine .inr ⟨trivial,.inr ⟨trivial,T7 ?_⟩⟩;subst hN;left;simp only [VV];refine .inr ⟨trivial,?_⟩;exact q
 |no k e =>
  refine ⟨.inl rfl,?_⟩;subst e;subst hN;left;simp only [VV];refine T7 (.inl ⟨trivial,?_⟩);subst hN;left;simp only [VV];refine .inl ⟨trivial,?_⟩;subst hN;left;simp only [VV];refine .inl ⟨trivial,.inl ⟨trivial,T7 ?_⟩⟩;subst hN;left;simp only [VV];refine .inl ⟨trivial,?_⟩;subst hN;simp only [VV];refine ⟨trivial,?_⟩;rw [List.lookup_cons_self];exact q
theorem b3S{f:Addr}{fd:FuncData}(F:Fun K "_law_refused" "_law_refused" a9c f fd)(T:Txt P w K mg)(C_q41:a7p P w K mg base 7 "unrolled" ["chart","start","rows","k","most"] (spX K 5 K1)):u7 P w K mg base CX0 8 f fd ["_law_chart_here","_law_start","_law_rows","_law_k","_law_most"] (spD K 5 a2J) :=
 z8 (k:=7) (b:=a6L) F sc_q15 (fun cdv A outer s H E hr=>by
  refine b9 ?_ ?_
  ·exact g7 (i:=5) sc_q15.nd rfl (Or.inl rfl) l7
  refine b9 ?_ ?_
  ·exact b0q ⟨rfl,rfl⟩ (fun _ _ z=>z) sc_q15.nd rfl rfl C_q41 (hr.mono (by decide)) rfl (a7 (sv 0) (a7 (sv 1) (a7 (sv 2) (a7 (sv 3) (a7 (sv 4) b8))))) T.k_CallError T.k2_CallError rfl (fun a=>(d0 (g7 (i:=5) sc_q15.nd rfl (Or.inl rfl) (sv 6))))
  refine b9 ?_ ?_
  ·refine p7 ?_ ?_ g6
   ·exact F1 (B8 (e7 J1 (sv 5) l7) (B7 (A9 (o8 (b1u rfl T.b_isinstance T.x_NoPaper T.x_TooLong T.i_ValueError T.j_ValueError rfl T.b_ValueError (sv 5))))))
   refine d0 ?_;refine g9 ?_;exact i8 (a7 f8 (a7 a9 b8))
  refine b9 ?_ ?_
  ·refine p7 ?_ ?_ g6
   ·exact o8 (b1W rfl T.b_isinstance T.x_NoPaper T.x_TooLong T.i_NoChart T.j_NoChart T.i_NoName T.j_NoName T.i_NoTable T.j_NoTable T.i_NoText T.j_NoText T.i_NoWay T.j_NoWay rfl rfl rfl rfl rfl (sv 5))
   refine d0 ?_;refine g9 ?_;exact i8 (a7 f8 (a7 a9 b8))
  refine b9 ?_ ?_
  ·refine p7 ?_ ?_ g6
   ·exact e7 (o7 hr.units) (a1B rfl T.b_isinstance T.x_NoPaper T.x_TooLong T.i_TooLong T.j_TooLong rfl (sv 5)) (a1B rfl T.b_isinstance T.x_NoPaper T.x_TooLong T.i_NoPaper T.j_NoPaper rfl (sv 5))
   refine d0 ?_;refine g9 ?_;exact i8 (a7 f8 (a7 a9 b8))
  refine b9 ?_ ?_
  ·refine p7 ?_ ?_ g6
   ·exact o8 (a1B rfl T.b_isinstance T.x_NoPaper T.x_TooLong T.i_TooLong T.j_TooLong rfl (sv 5))
   refine d0 ?_;refine g9 ?_;exact i8 (a7 f8 (a7 a9 b8))
  refine d0 ?_;refine g9 ?_;exact i8 (a7 f8 (a7 (b8B T.a_row (sv 5)) b8))) b2y
def b5M:DS:=(d8 (j8 (b7 5) (a2c 2 (A8 (d7 6) (A8 (d7 7) U4))))
  (d8 (o9 (dOr (k7 (dOp (pIs false) (b7 6) (dC .non))) (k7 (dOp (pEq false) (dOp pIx (b7 6) (dC (.int 0))) (dC (.str "within"))))) (l9 (dOp (pEq false) (l8 a2J (a8 (b7 0) (a8 (b7 1) (a8 (b7 2) (a8 (b7 3) (a8 (b7 4) c8)))))) (t9 (a8 (dC (.str "no")) (a8 (b7 3) c8))))) k6)
  (d8 (o9 (k7 (dOp pGt (b7 7) (b7 4))) (l9 (dOp (pEq false) (l8 a2J (a8 (b7 0) (a8 (b7 1) (a8 (b7 2) (a8 (b7 3) (a8 (b7 4) c8)))))) (t9 (a8 (dC (.str "long")) (a8 (dC (.int 0)) c8))))) k6)
  (d8 (o9 (k7 (dOp (pEq false) (b7 4) (dC (.int 400)))) (l9 (l8 a1h (a8 (b7 0) (a8 (b7 1) (a8 (b3g (fun ds h Q=>K1 ds h Q fun _ _ _=>False) [400] (a8 (b7 0) (a8 (b7 1) (a8 (b7 2) (a8 (b7 3) c8))))) (a8 (b7 6) (a8 (b7 7) c8))))))) k6)
  (l9 (l8 a1h (a8 (b7 0) (a8 (b7 1) (a8 (l8 (fun ds h Q=>K1 ds h Q fun _ _ _=>False) (a8 (b7 0) (a8 (b7 1) (a8 (b7 2) (a8 (b7 3) (a8 (b7 4) c8)))))) (a8 (b7 6) (a8 (b7 7) c8)))))))))))
theorem a3D{rs:List Row}{k:Nat}{d d':Int}(h:First rs k d)(h':First rs k d'):d=d':=by
 induction h with
 |start e =>
  cases h' with
  |start e'=>rw [e] at e';cases e';rfl
  |inn e'=>rw [e] at e';cases e'
  |along e'=>rw [e] at e';cases e'
 |inn e l _ ih =>
  cases h' with
  |start e'=>rw [e] at e';cases e'
  |inn e' _ f=>rw [e] at e';obtain ⟨_,e2,_,_⟩:=Row.mv.inj (Option.some.inj e');rw [Int.ofNat_inj.mp e2] at ih;exact ih f
  |along e'=>rw [e] at e';cases e'
 |along e l _ ih =>
  cases h' with
  |start e'=>rw [e] at e';cases e'
  |inn e'=>rw [e] at e';cases e'
  |along e' _ f=>rw [e] at e';obtain ⟨e2,_⟩:=Row.along.inj (Option.some.inj e');rw [Int.ofNat_inj.mp e2] at ih;exact ih f
def b7O(rs:List Row)(cs:List Clm)(ws:List (List GM))(k:Int)(d:D):Prop:=(¬ (0 <= k/\k < rs.length)/\d = .tup [.non,.int 0])\/∃ (kn:Nat) (c:Clm) (w:List GM),k=(kn:Int)/\cs[kn]?=some c/\ws[kn]?=some w/\d = .tup [clD c,nD w.length]
def a5n:DSp:=fun ds h Q=>∃ (C:i9) (st:Nat) (a:D) (k:Int) (most:Nat) (told:D) (F:Fn) (rs:List Row) (cs:List Clm) (ws:List (List GM)) (vs:List Nat),ds=[cD C,nD st,a,.int k,nD most,told]/\WF C/\C[0]?=some F/\w6 h a=some (rs.map rD)/\rs.length <= 3000/\most <= 400/\k.natAbs <= 2 ^ 70/\PR C st rs cs ws vs/\b7O rs cs ws k told/\Q (.bl true) h
theorem b4k:∀ ds h Q,a5n ds h Q->k8 8 b5M ds h Q:=by
 rintro ds h Q ⟨C,st,a,k,most,told,F,rs,cs,ws,vs,rfl,wf,hF,ha,hl,hm,hk,pr,td,q⟩
 have un:∀ {Q X},(¬ (0 <= k/\k < rs.length)->X "NoPaper" [("row",k)] h)->(∀ c w,0 <= k->cs[k.toNat]?=some c->ws[k.toNat]?=some w->UE h Q X (rs.take (k.toNat + 1)) k most w c)->K1 [cD C,nD st,a,.int k,nD most] h Q X:=fun {Q X} y1 y2=>⟨C,st,rs,cs,ws,vs,k,most,⟨_,_,_,F,rfl,ChD.of _ C,wf,hF,ha,hl,hm,hk,pr⟩,y1,y2⟩
 have eno:∀ {Q:DK},Q (.bl true) h->pEq false (.tup [.str "no",.int k]) (.tup [.str "no",.int k]) h Q:=fun {Q} q=>T9 (n:=1) rfl (.tup (.cons (.str (by decide +kernel)) (.cons (.int _) .nil))) (.tup (.cons (.str (by decide +kernel)) (.cons (.int _) .nil))) (by decide) q;have elong:∀ {Q:DK},Q (.bl true) h->pEq false (.tup [.str "long",.int 0]) (.tup [.str "long",.int 0]) h Q:=fun {Q} q=>T9 (n:=1) rfl (.tup (.cons (.str (by decide +kernel)) (.cons (.int _) .nil))) (.tup (.cons (.str (by decide +kernel)) (.cons (.int _) .nil))) (by decide) q;have ew:∀ {K:DK},K (.bl true) h->pEq false (.str "within") (.str "within") h K:=fun {K} k=>by simp only [VV];exact k
 delta k8 q8 b5M;simp only [VS];left
 rcases td with ⟨nk,rfl⟩ | ⟨kn,c,w,rfl,hc,hw,rfl⟩
 ·simp only [VV];refine ⟨trivial,?_⟩;subst hN;left;simp only [VV1];refine ⟨_,_,_,_,_,.tup [.str "no",.int k],rfl,un (fun _=>⟨rfl,.no k rfl⟩) (fun c w k0 hc hw=>?_),eno q⟩
  have:=m9 hc
  have:=pr.lens.1
  exact absurd ⟨k0,by right⟩ nk
 ·have kl:=m9 hc;have lc:=pr.lens.1
  have same:∀ {c' w'},cs[((kn:Nat):Int).toNat]?=some c'->ws[((kn:Nat):Int).toNat]?=some w'->c'=c/\w'=w:=fun {c' w'} h1 h2=>by
   rw [Int.toNat_natCast] at h1 h2;rw [hc] at h1;rw [hw] at h2
   cases h1;cases h2;exact ⟨rfl,rfl⟩
  simp only [VV];refine ⟨trivial,?_⟩;subst hN;left
  cases c with
  |within f a p d x =>
   simp only [clD,VV1];refine ew ?_;dsimp only;refine Y9 ?_;refine ⟨_,_,_,_,_,.tup [.str "no",.int (kn:Int)],rfl,un (fun _=>⟨rfl,.no _ rfl⟩) (fun c' w' k0 h1 h2=>?_),eno q⟩;obtain ⟨rfl,rfl⟩:=same h1 h2;exact ⟨rfl,.no _ rfl⟩
  |«at» f p d x =>
   simp only [clD,VV];subst hN;left
   by_cases z:(most:Int) < (w.length:Int)
   ·simp only [z,VV1];refine ⟨_,_,_,_,_,.tup [.str "long",.int 0],rfl,un (fun z=>absurd ⟨by right,by right⟩ z) (fun c' w' k0 h1 h2=>?_),elong q⟩;obtain ⟨rfl,rfl⟩:=same h1 h2;exact ⟨fun _=>⟨rfl,.long rfl⟩,fun z2=>absurd z (by right)⟩
   ·simp only [z,VV];have pp:=pr.prefix (kn + 1) (by right);have hc':(cs.take (kn + 1))[kn]?=some (.at f p d x):=by rw [List.getElem?_take_of_lt (by right)];exact hc
    have hw':(ws.take (kn + 1))[kn]?=some w:=by rw [List.getElem?_take_of_lt (by right)];exact hw
    obtain ⟨a0,o,F',ff,hF',h1,h2,wk⟩:=pp.gone kn _ w hc' hw';rw [hF] at hF';cases hF'
    have walk:∀ K:DK,K (.bl true) h->K1 [cD C,nD st,a,.int (kn:Int),nD most] h (fun d1 h1=>a1h [cD C,nD st,d1,.tup [.str "at",nD f,nD p,nD d,nD x],nD w.length] h1 K) (fun _ _ _=>False):=fun K kk=>un (fun z=>absurd ⟨by right,by right⟩ z) (fun c' w' k0 h1' h2'=>by
     obtain ⟨rfl,rfl⟩:=same h1' h2';refine ⟨fun z2=>absurd z2 (by right),fun z2 a1 ff1=>?_⟩;rw [Int.toNat_natCast] at ff1
     obtain rfl:=a3D ff1 ff
     exact ⟨C,st,a0,w',f,p,d,x,o,F,rfl,wf,hF,h1,h2,by right,wk,kk⟩)
    subst hN;left
    by_cases z4:((most:Int) == 400)=true
    ·simp only [z4,VV]
     obtain rfl:most=400:=by have:=eq_of_beq z4;omega
     exact walk _ q
    ·simp only [z4,VV];subst hN;simp only [VV];exact walk _ q
theorem b8H{f:Addr}{fd:FuncData}(F:Fun K "_law_asked" "_law_asked" b3w f fd)(T:Txt P w K mg)(C_q15:Cal P w K mg base 8 "_law_refused" ["_law_chart_here","_law_start","_law_rows","_law_k","_law_most"] (spD K 5 a2J))(C_unrolled__F1:a6q P w K mg base 7 "unrolled" ["chart","start","rows","k","most"] (spX K 5 K1) [400])(C_q20:Cal P w K mg base 3 "_law_walks" ["_law_chart_here","_law_start","_law_found","_law_claim_here","_law_many_here"] (spD K 5 a1h))(C_q41:a7p P w K mg base 7 "unrolled" ["chart","start","rows","k","most"] (spX K 5 K1)):u7 P w K mg base CX0 9 f fd ["_law_chart_here","_law_start","_law_rows","_law_k","_law_most","_law_told"] (spD K 6 a5n) :=
 z8 (k:=8) (b:=b5M) F sc_q0 (fun cdv A outer s H E hr=>by
  refine b9 ?_ ?_
  ·exact Y0 (sv 5) (P6 rfl (u6 (j9 (i:=6) sc_q0.nd rfl (Or.inl rfl)) (u6 (j9 (i:=7) sc_q0.nd rfl (Or.inl rfl)) K8)))
  refine b9 ?_ ?_
  ·refine p7 ?_ ?_ g6
   ·exact F1 (B8 (e7 J1 (sv 6) l7) (B7 (e7 (o7 hr.units) (c7 c6 (sv 6) a9) f8)))
   refine d0 ?_;refine g9 ?_;exact E5 (o7 hr.units) (f7 C_q15 (hr.mono (by decide)) rfl (a7 (sv 0) (a7 (sv 1) (a7 (sv 2) (a7 (sv 3) (a7 (sv 4) b8)))))) (i8 (a7 f8 (a7 (sv 3) b8)))
  refine b9 ?_ ?_
  ·refine p7 (e7 N9 (sv 7) (sv 4)) ?_ g6;refine d0 ?_;refine g9 ?_;exact E5 (o7 hr.units) (f7 C_q15 (hr.mono (by decide)) rfl (a7 (sv 0) (a7 (sv 1) (a7 (sv 2) (a7 (sv 3) (a7 (sv 4) b8)))))) (i8 (a7 f8 (a7 a9 b8)))
  refine b9 ?_ ?_
  ·refine p7 (e7 (o7 hr.units) (sv 4) a9) ?_ g6;refine d0 ?_;refine g9 ?_;exact f7 C_q20 (hr.mono (by decide)) rfl (a7 (sv 0) (a7 (sv 1) (a7 (a8A C_unrolled__F1 (hr.mono (by decide)) rfl (a7 (sv 0) (a7 (sv 1) (a7 (sv 2) (a7 (sv 3) b8))))) (a7 (sv 6) (a7 (sv 7) b8)))))
  refine d0 ?_;refine g9 ?_;exact f7 C_q20 (hr.mono (by decide)) rfl (a7 (sv 0) (a7 (sv 1) (a7 (b0j C_q41 (hr.mono (by decide)) rfl (a7 (sv 0) (a7 (sv 1) (a7 (sv 2) (a7 (sv 3) (a7 (sv 4) b8)))))) (a7 (sv 6) (a7 (sv 7) b8)))))) b4k
def b4s:DS:=(d8 (j8 (dOp u0 (dC (.int 300)) (l8 u9 (a8 (b7 0) (a8 (dC (.int 110)) c8)))) (d7 1))
  (d8 (j8 (dOp u0 (dC (.int 1)) (l8 u9 (a8 (b7 0) (a8 (dC (.int 9)) c8)))) (d7 2))
  (d8 (j8 (dV (a8 (t9 (a8 (dC (.int 1)) (a8 (dC (.int 1)) (a8 (dV (a8 (t9 (a8 (dC (.str "step")) (a8 (dC (.int 0)) (a8 (dC (.int 0)) (a8 (b7 2) (a8 (t9 (a8 (dC (.int 1)) c8)) c8)))))) c8)) c8)))) c8)) (d7 3))
  (d8 (j8 (dTk (a8 (t9 (a8 (dC (.str "start")) (a8 (dC (.int 0)) c8))) (a8 (t9 (a8 (dC (.str "begin")) (a8 (dC (.int 0)) (a8 (dC (.int 0)) c8)))) c8))) (d7 4))
  (d8 (O5 (F5 (a8 (b7 1) c8)) (d7 5) (F2 (B6 (b7 4) (a8 (t9 (a8 (dC (.str "step")) (a8 (dOp u0 (b7 5) (dC (.int 1))) (a8 (dC (.int 0)) (a8 (dC (.int 0)) c8))))) c8))))
  (d8 (F2 (B6 (b7 4) (a8 (t9 (a8 (dC (.str "along")) (a8 (dC (.int 0)) (a8 (dOp u0 (b7 1) (dC (.int 1))) c8)))) c8)))
  (d8 (O5 (F5 (a8 (l8 u9 (a8 (b7 0) (a8 (dC (.int 1400)) c8))) c8)) (d7 5) (F2 (B6 (b7 4) (a8 (t9 (a8 (dC (.str "along")) (a8 (dOp M2 (dCB A0 (a8 (b7 4) c8)) (dC (.int 1))) (a8 (dC (.int 1)) c8)))) c8))))
  (d8 (j8 (t9 (a8 (dC (.str "at")) (a8 (dC (.int 0)) (a8 (dC (.int 0)) (a8 (dC (.int 0)) (a8 (dOp K6 (b7 2) (b7 1)) c8)))))) (d7 6))
  (d8 (O5 (G2 (dV (a8 (dC (.int 400)) (a8 (dCB a0D (a8 (b7 1) (a8 (dC (.int 400)) c8))) (a8 (dCB a0D (a8 (dOp M2 (b7 1) (dC (.int 1))) (a8 (dC (.int 400)) c8))) c8))))) (d7 7) (o9 (M3 (dTr (l8 a5n (a8 (b7 3) (a8 (dC (.int 1)) (a8 (b7 4) (a8 (dOp M2 (dCB A0 (a8 (b7 4) c8)) (dC (.int 1))) (a8 (b7 7) (a8 (t9 (a8 (b7 6) (a8 (b7 1) c8))) c8))))))))) (l9 (dC (.bl false))) k6))
  (l9 (dC (.bl true))))))))))))
def chC(c:Nat):i9:=[⟨1,1,[⟨0,0,c,.step [1]⟩]⟩]
theorem b4v{c:Nat}(h1:1 <= c)(h2:c <= 9):WF (chC c):=by
 refine ⟨(show 1 <= 1 by decide),(show 1 <= 6 by decide),fun f F hF=>?_⟩;have hf:f=0:=by have:=m9 hF;simp [chC] at this;exact this
 subst hf;cases hF;refine ⟨(show 1 <= 1 by decide),(show 1 <= 10 by decide),(show 1 <= 1 by decide),(show 1 <= 6 by decide),(show 1 <= 100 by decide),fun e he=>?_⟩;rw [List.mem_singleton.mp he];exact ⟨(show 0 < 1 by decide),(show 0 < 1 by decide),h1,by show c <= 10 ^ 18;omega,rfl,fun x hx=>by rw [List.mem_singleton.mp hx];exact (show 1 < 2 ^ 1 by decide)⟩
section
variable {c:Nat} {rs:List Row} {cs:List Clm} {ws:List (List GM)} {vs:List Nat}
theorem b1M(p:PR (chC c) 1 rs cs ws vs){k x:Nat}{w:List GM}(h1:cs[k]?=some (.within 0 0 0 0 x))(h2:ws[k]?=some w):∃ vs',PR (chC c) 1 (rs ++ [.mv .step k 0 0]) (cs ++ [.within 0 0 0 0 (x + c)]) (ws ++ [w ++ [.go .step 0 0]]) vs':=by
 have h:=p.snoc (r:=.mv .step k 0 0) (c:=.within 0 0 0 0 (x + c)) (by
  have:=U7 (C:=chC c) (f:=0) (n:=0) (p:=0) (d:=0) (e:=0) (w:=.step) (F:=⟨1,1,[⟨0,0,c,.step [1]⟩]⟩) (E:=⟨0,0,c,.step [1]⟩) rfl rfl rfl rfl (a3W (show Nat.testBit 1 0=true by decide))
  rw [b2U 1 (by decide) (J7 h1)];exact congrArg _ this)
 have e:C7 ws (k9 cs (.mv .step k 0 0))=w ++ [.go .step 0 0]:=by
  simp [C7,k9,pF,h2]
 rw [e] at h;exact ⟨_,h⟩
theorem a2X(p:PR (chC c) 1 rs cs ws vs){k j x y:Nat}{w w':List GM}(h1:cs[k]?=some (.at 0 0 0 x))(h2:ws[k]?=some w)(h3:cs[j]?=some (.within 0 0 0 0 y))(h4:ws[j]?=some w'):∃ vs',PR (chC c) 1 (rs ++ [.along k j]) (cs ++ [.at 0 0 0 (x + y)]) (ws ++ [w ++ w']) vs':=by
 have h:=p.snoc (r:=.along k j) (a2Q 1 (J7 h1) (J7 h3));have e:C7 ws (k9 cs (.along k j))=w ++ w':=by simp [C7,k9,pF,h2,h4]
 rw [e] at h;exact ⟨_,h⟩
end
theorem b4e(c:Nat):∃ vs,PR (chC c) 1 [.start 0,.begin 0 0] [.at 0 0 0 0,.within 0 0 0 0 0] [[],[]] vs:=by
 have h1:=(PR.nil (C:=chC c) (st:=1)).snoc (r:=.start 0) (a1d (d:=0) (F:=⟨1,1,[⟨0,0,c,.step [1]⟩]⟩) rfl (show 0 < 1 by decide) (by decide));have h2:=h1.snoc (r:=.begin 0 0) (a2A (f:=0) (d:=0) (F:=⟨1,1,[⟨0,0,c,.step [1]⟩]⟩) 1 rfl (show 0 < 1 by decide));exact ⟨_,h2⟩
theorem up1{α:Type}{xs:List α}{x y:α}{k:Nat}(h:xs[k]?=some x):(xs ++ [y])[k]?=some x:=by rw [List.getElem?_append_left (m9 h)];exact h
theorem a5j{α:Type}{xs:List α}{y:α}{k:Nat}(h:k=xs.length):(xs ++ [y])[k]?=some y:=by rw [h,List.getElem?_append_right (Nat.le_refl _),Nat.sub_self];rfl
def a7w:DSp:=fun ds h Q=>∃ (i:Nat) (y s:Int) (b:Bool),ds=[.ref i]/\h[i]?=some (stO y s b)/\0 <= y/\∀ y' s',Q (.bl true) (h.set i (stO y' s' b))
theorem b6f:∀ ds h Q,a7w ds h Q->k8 8 b4s ds h (Dr h Q):=by
 rintro ds h Q ⟨i,y,s,b,rfl,hi,y0,q⟩
 have gs:∀ o:O,(h.set i o)[i]?=some o:=fun o=>List.getElem?_set_self (List.getElem?_eq_some_iff.mp hi).1;delta k8 q8 b4s;simp only [VS];left;simp only [VV];refine ⟨i,y,s,110,b,rfl,hi,y0,⟨by decide,by decide⟩,fun y1 s1 r1 y10 hr1=>?_⟩;simp only [VV];rw [show (300:Int) + (r1:Int)=((300 + r1:Nat):Int) by right];obtain ⟨n,hn⟩:∃ n:Nat,300 + r1=n:=⟨_,rfl⟩
 rw [hn];have n1:300 <= n:=by right
 have n2:n <= 409:=by right
 subst hN;left;simp only [VV];refine ⟨i,y1,s1,9,b,rfl,gs _,y10,⟨by decide,by decide⟩,fun y2 s2 r2 y20 hr2=>?_⟩;rw [set_set];simp only [VV];rw [show (1:Int) + (r2:Int)=((1 + r2:Nat):Int) by right];obtain ⟨c,hc⟩:∃ c:Nat,1 + r2=c:=⟨_,rfl⟩
 rw [hc];have c1:1 <= c:=by right
 have c9:c <= 9:=by right
 have wf:=b4v c1 c9;subst hN;left;simp only [VV];show N [some (.ref i),some (nD n),some (nD c),some (cD (chC c)),none,none,none,none] _;subst hN;left;simp only [VV];show N [some (.ref i),some (nD n),some (nD c),some (cD (chC c)),some (.ref (h.set i (stO y2 s2 b)).length),none,none,none] (h.set i (stO y2 s2 b) ++ [O.lst ([Row.start 0,.begin 0 0].map rD)]);rw [List.length_set];obtain ⟨vs0,pr0⟩:=b4e c;subst hN;left;simp only [VV];refine ⟨by right,?_⟩;rw [v9,Int.toNat_natCast];refine w5 (fun p δ h'=>∃ (rs:List Row) (cs:List Clm) (ws:List (List GM)) (vs:List Nat) (w:List GM) (x5:Option D),δ=[some (.ref i),some (nD n),some (nD c),some (cD (chC c)),some (.ref h.length),x5,none,none]/\h'=h.set i (stO y2 s2 b) ++ [O.lst (rs.map rD)]/\rs.length=p.length + 2/\PR (chC c) 1 rs cs ws vs/\cs[0]?=some (.at 0 0 0 0)/\ws[0]?=some []/\cs[1]?=some (.within 0 0 0 0 0)/\ws[1]?=some []/\cs[p.length + 1]?=some (.within 0 0 0 0 (c * p.length))/\ws[p.length + 1]?=some w/\w.length=p.length) ⟨_,_,_,vs0,[],none,rfl,rfl,rfl,pr0,rfl,rfl,rfl,rfl,rfl,rfl,rfl⟩ (fun _ _ _ _=>Src.ok_nil) ?_ ?_
 ·rintro p k r δ h' N1 e ⟨rs,cs,ws,vs,w,x5,rfl,rfl,hl,pr,a0,a1,a2,a3,a4,a5,a6⟩ hN1
  obtain ⟨hkp,hk⟩:=G1 e;subst hkp;obtain ⟨l1,l2,_⟩:=pr.lens;obtain ⟨vs',pr'⟩:=b1M pr a4 a5;simp only [T4,a1w,List.length_map,VV];refine ⟨by right,hN1 _ _ ⟨_,_,_,vs',w ++ [.go .step 0 0],_,rfl,?_,by simp [hl],pr',up1 a0,up1 a1,up1 a2,up1 a3,?_,?_,?_⟩⟩
  ·rw [List.map_append,Int.zero_add];rfl
  ·rw [show (p ++ [p.length]).length=p.length + 1 by simp,Nat.mul_add,Nat.mul_one];exact a5j (by right)
  ·rw [show (p ++ [p.length]).length=p.length + 1 by simp];exact a5j (by right)
  ·simp [a6]
 ·rintro δ h' ⟨rs,cs,ws,vs,w,x5,rfl,rfl,hl,pr,a0,a1,a2,a3,a4,a5,a6⟩
  rw [List.length_range] at hl a4 a5 a6;obtain ⟨vs',pr'⟩:=a2X pr a0 a1 a4 a5;obtain ⟨l1,l2,_⟩:=pr.lens;subst hN;left;simp only [T4,a1w,List.length_map,VV];refine ⟨by right,?_⟩;rw [show List.map rD rs ++ [D.tup [.str "along",.int 0,.int ((n:Int) + 1)]]=(rs ++ [Row.along ((0:Nat):Int) ((n + 1:Nat):Int)]).map rD by rw [List.map_append];rfl];have b0:=up1 (y:=Clm.at 0 0 0 (0 + c * n)) a2;have b1:=up1 (y:=[] ++ w) a3;have b2:(cs ++ [Clm.at 0 0 0 (0 + c * n)])[n + 2]?=some (.at 0 0 0 (c * n)):=by rw [Nat.zero_add];exact a5j (by right)
  have b3:(ws ++ [[] ++ w])[n + 2]?=some w:=a5j (by right);have hl2:(rs ++ [Row.along ((0:Nat):Int) ((n + 1:Nat):Int)]).length=n + 3:=by simp [hl]
  generalize rs ++ [Row.along ((0:Nat):Int) ((n + 1:Nat):Int)]=rs1 at pr' hl2;generalize cs ++ [Clm.at 0 0 0 (0 + c * n)]=cs1 at pr' b0 b2;generalize ws ++ [[] ++ w]=ws1 at pr' b1 b3;clear a0 a1 a2 a3 a4 a5 l1 l2 pr;subst hN;left;simp only [VV];refine ⟨i,y2,s2,1400,b,rfl,a1o hi,y20,⟨by decide,by decide⟩,fun y3 s3 m y30 hm=>?_⟩;rw [a1U hi];simp only [VV];refine ⟨by right,?_⟩;rw [v9,Int.toNat_natCast];refine w5 (fun p δ h'=>∃ (rs:List Row) (cs:List Clm) (ws:List (List GM)) (vs:List Nat) (x5:Option D),δ=[some (.ref i),some (nD n),some (nD c),some (cD (chC c)),some (.ref h.length),x5,none,none]/\h'=h.set i (stO y3 s3 b) ++ [O.lst (rs.map rD)]/\rs.length=p.length + n + 3/\PR (chC c) 1 rs cs ws vs/\cs[1]?=some (.within 0 0 0 0 0)/\ws[1]?=some []/\cs[p.length + n + 2]?=some (.at 0 0 0 (c * n))/\ws[p.length + n + 2]?=some w) ⟨rs1,cs1,ws1,vs',_,rfl,rfl,by rw [hl2];simp,pr',b0,b1,by rw [List.length_nil,Nat.zero_add];exact b2,by rw [List.length_nil,Nat.zero_add];exact b3⟩ (fun _ _ _ _=>Src.ok_nil) ?_ ?_
  ·rintro p k r δ h' N1 e ⟨rs,cs,ws,vs,x5,rfl,rfl,hl,pr,a2,a3,a4,a5⟩ hN1
   obtain ⟨hkp,hk⟩:=G1 e;obtain ⟨l1,l2,_⟩:=pr.lens;obtain ⟨vs',pr'⟩:=a2X pr a4 a5 a2 a3;rw [List.append_nil,Nat.add_zero] at pr';have lg:w6 (h.set i (stO y3 s3 b) ++ [O.lst (rs.map rD)]) (.ref h.length)=some (rs.map rD):=v8 T4;simp only [T4,a1w,List.length_map,p6 lg,VV];refine ⟨by right,hN1 _ _ ⟨_,_,_,vs',_,rfl,?_,by simp [hl];omega,pr',up1 a2,up1 a3,a5j (by simp [l1,hl];omega),a5j (by simp [l2,hl];omega)⟩⟩;rw [List.map_append,show (rs.length:Int) - 1=((p.length + n + 2:Nat):Int) by right];rfl
  ·rintro δ h' ⟨rs,cs,ws,vs,x5,rfl,rfl,hl,pr,a2,a3,a4,a5⟩
   rw [List.length_range] at hl a4 a5;subst hN;left;simp only [VV];refine ⟨a2l (by right),?_⟩;rw [<- Int.natCast_mul];subst hN;left;have e1:(if (400:Int) < (n:Int) then (400:Int) else (n:Int))=((min n 400:Nat):Int):=by split <;> omega
   have e2:(if (400:Int) < (n:Int) - 1 then (400:Int) else (n:Int) - 1)=((min (n - 1) 400:Nat):Int):=by split <;> omega
   simp only [e1,e2,VV];show a1G _ _ _ _ (List.map nD [400,min n 400,min (n - 1) 400]) _ _;have lg:w6 (h.set i (stO y3 s3 b) ++ [O.lst (rs.map rD)]) (.ref h.length)=some (rs.map rD):=v8 T4;refine w5 (fun p δ h'=>∃ (x7:Option D),δ=[some (.ref i),some (nD n),some (nD c),some (cD (chC c)),some (.ref h.length),x5,some (.tup [.str "at",.int 0,.int 0,.int 0,.int ((c * n:Nat):Int)]),x7]/\h'=h.set i (stO y3 s3 b) ++ [O.lst (rs.map rD)]) ⟨none,rfl,rfl⟩ (fun _ _ _ _=>Src.ok_nil) ?_ ?_
   ·rintro p mo r δ h' N1 e ⟨x7,rfl,rfl⟩ hN1
    have hmo:mo <= 400:=by
     have:mo ∈ [400,min n 400,min (n - 1) 400]:=by rw [e];simp
     simp only [List.mem_cons,List.not_mem_nil,or_false] at this;omega
    simp only [p6 lg,List.length_map,VV];refine ⟨chC c,1,.ref h.length,(rs.length:Int) - 1,mo,_,⟨1,1,[⟨0,0,c,.step [1]⟩]⟩,rs,cs,ws,vs,rfl,wf,rfl,lg,by right,hmo,by right,pr,.inr ⟨m + n + 2,.at 0 0 0 (c * n),w,by right,a4,a5,by rw [a6];rfl⟩,?_⟩;simp only [VV];exact hN1 _ _ ⟨_,rfl,rfl⟩
   ·rintro δ h' ⟨x7,rfl,rfl⟩
    subst hN;simp only [VV];exact Dr.state hi rfl rfl (q y3 s3)
theorem b8A{f:Addr}{fd:FuncData}(F:Fun K "_law_chain_right" "_law_chain_right" b3V f fd)(T:Txt P w K mg)(C_q12:Cal P w K mg base 1 "_law_next" ["_law_state_here","_law_many_here"] (spD K 2 u9))(C_q0:Cal P w K mg base 9 "_law_asked" ["_law_chart_here","_law_start","_law_rows","_law_k","_law_most","_law_told"] (spD K 6 a5n)):u7 P w K mg base CX0 10 f fd ["_law_state_here"] (spD K 1 a7w) :=
 L7 (k:=9) (b:=b4s) F sc_q3 (fun cdv A outer s H E hr=>by
  refine b9 ?_ ?_
  ·refine g7 (i:=1) sc_q3.nd rfl (Or.inl rfl) ?_;exact g8 m7 a9 (f7 C_q12 (hr.mono (by decide)) rfl (a7 (sv 0) (a7 a9 b8)))
  refine b9 ?_ ?_
  ·refine g7 (i:=2) sc_q3.nd rfl (Or.inl rfl) ?_;exact g8 m7 a9 (f7 C_q12 (hr.mono (by decide)) rfl (a7 (sv 0) (a7 a9 b8)))
  refine b9 ?_ ?_
  ·refine g7 (i:=3) ?_ ?_ ?_ ?_
   ·exact sc_q3.nd
   ·exact rfl
   ·exact Or.inl rfl
   refine C9 ?_;refine t7 (n:=1) ?_;refine a7 ?_ b8;refine i8 (n:=3) ?_;refine a7 a9 ?_;refine a7 a9 ?_;refine a7 ?_ b8;refine C9 ?_;refine t7 (n:=1) ?_;refine a7 ?_ b8;refine i8 (n:=5) ?_;refine a7 f8 ?_;refine a7 a9 ?_;refine a7 a9 ?_;refine a7 (sv 2) ?_;refine a7 ?_ b8;exact i8 (a7 a9 b8)
  refine b9 ?_ ?_
  ·refine g7 (i:=4) ?_ ?_ ?_ ?_
   ·exact sc_q3.nd
   ·exact rfl
   ·exact Or.inl rfl
   exact S9 (t7 (a7 (i8 (a7 f8 (a7 a9 b8))) (a7 (i8 (a7 f8 (a7 a9 (a7 a9 b8)))) b8)))
  refine b9 ?_ ?_
  ·refine J0 PassesOwn.never rfl (B0 rfl T.b_range (a7 (sv 1) b8)) (j9 (i:=5) sc_q3.nd rfl (Or.inl rfl)) ?_;refine d0 ?_;refine B5 ?_;exact z5 (sv 4) (a7 (i8 (a7 f8 (a7 (g8 m7 (sv 5) a9) (a7 a9 (a7 a9 b8))))) b8)
  refine b9 ?_ ?_
  ·refine B5 ?_;exact z5 (sv 4) (a7 (i8 (a7 f8 (a7 a9 (a7 (g8 m7 (sv 1) a9) b8)))) b8)
  refine b9 ?_ ?_
  ·refine J0 PassesOwn.never rfl ?_ (j9 (i:=5) sc_q3.nd rfl (Or.inl rfl)) ?_
   ·exact B0 rfl T.b_range (a7 (f7 C_q12 (hr.mono (by decide)) rfl (a7 (sv 0) (a7 a9 b8))) b8)
   refine d0 ?_;refine B5 ?_;exact z5 (sv 4) (a7 (i8 (a7 f8 (a7 (g8 C8 (f9 n8 rfl T.b_len PySem.boot_len (a7 (sv 4) b8)) a9) (a7 a9 b8)))) b8)
  refine b9 ?_ ?_
  ·refine g7 (i:=6) ?_ ?_ ?_ ?_
   ·exact sc_q3.nd
   ·exact rfl
   ·exact Or.inl rfl
   refine i8 (n:=5) ?_;refine a7 f8 ?_;exact a7 a9 (a7 a9 (a7 a9 (a7 (g8 z6 (sv 2) (sv 1)) b8)))
  refine b9 ?_ (d0 (g9 Y2));refine J0 PassesOwn.never rfl ?_ (j9 (i:=7) sc_q3.nd rfl (Or.inl rfl)) ?_
  ·exact B9 (C9 (t7 (a7 a9 (a7 (f9 (P3 rfl) rfl T.b_min PyProof.Rows.boot_min (a7 (sv 1) (a7 a9 b8))) (a7 (f9 (P3 rfl) rfl T.b_min PyProof.Rows.boot_min (a7 (g8 C8 (sv 1) a9) (a7 a9 b8))) b8)))))
  refine d0 ?_;refine p7 ?_ (d0 (g9 Y2)) g6;exact A9 (o8 (f7 C_q0 (hr.mono (by decide)) rfl (a7 (sv 3) (a7 a9 (a7 (sv 4) (a7 (g8 C8 (f9 n8 rfl T.b_len PySem.boot_len (a7 (sv 4) b8)) a9) (a7 (sv 7) (a7 (i8 (a7 (sv 6) (a7 (sv 1) b8))) b8))))))))) b6f
def a4v:DS:=(d8 (j8 (l8 S2 (a8 (b7 0) (a8 (dC (.int 0)) c8))) (d7 1))
  (d8 (o9 (k7 (dOp (pEq false) (l8 u9 (a8 (b7 1) (a8 (dC (.int 16)) c8))) (dC (.int 15)))) (l9 (l8 a7w (a8 (b7 1) c8))) k6)
  (d8 (j8 (l8 b2i (a8 (b7 0) (a8 (dOp pIx (dV (a8 (t9 (a8 (dC (.int 4)) (a8 (dC (.int 4)) (a8 (dC (.int 4)) (a8 (dC (.int 14)) c8))))) (a8 (t9 (a8 (dC (.int 6)) (a8 (dC (.int 10)) (a8 (dC (.int 6)) (a8 (dC (.int 24)) c8))))) c8))) (dCB W5 (a8 (dOp pIx (l8 S2 (a8 (b7 0) (a8 (dC (.int 1)) c8))) (dC (.int 2))) c8))) (a8 (dC (.int 2)) c8)))) (d7 2))
  (d8 (j8 (l8 u9 (a8 (b7 1) (a8 (dOp a5o (dC (.int 1)) (dOp pIx (dOp pIx (b7 2) (dC (.int 0))) (dC (.int 1)))) c8))) (d7 3))
  (d8 (o9 (M3 (dTr (dOp pIx (b7 1) (dC (.int 2))))) (j8 (dOp b4B (b7 3) (dC (.int 1))) (d7 3)) k6)
  (d8 (j8 (dOp u0 (dV (a1g (a8 (dC (.int 3)) (a8 (dCB a0D (a8 (dCB A0 (a8 (b7 0) c8)) (a8 (dC (.int 50)) c8))) (a8 (dC (.int 2)) c8))))) (dV (a2u (a8 (dC (.int 50)) (a8 (dCB a0D (a8 (dCB A0 (a8 (b7 0) c8)) (a8 (dC (.int 63)) c8))) c8))))) (d7 4))
  (d8 (j8 (l8 a4R (a8 (b7 0) (a8 (b7 2) (a8 (b7 3) (a8 (b7 4) c8))))) (a2c 2 (A8 (d7 5) (A8 (d7 6) U4))))
  (d8 (j8 (l8 a4C (a8 (b7 5) c8)) (d7 7))
  (d8 (j8 (dV (a5e (a8 (b7 5) c8))) (d7 8))
  (d8 (j8 (dV (G4 [none,some 6] (F5 (a8 (dCB A0 (a8 (b7 5) c8)) c8)) (d7 0) (k7 (dOp (pEq false) (dOp pIx (dOp pIx (b7 1) (b7 0)) (dC (.int 0))) (dC (.str "at")))) (b7 0))) (d7 9))
  (d8 (j8 (l8 u9 (a8 (b7 1) (a8 (dCB b1v (a8 (dC (.int 1)) (a8 (dCB A0 (a8 (b7 5) c8)) c8))) c8))) (d7 10))
  (d8 (O5 (G2 (dOp u0 (dSl (b7 9) (a0d (dUn a2S (dC (.int 4)))) U5) (dV (a8 (dOp M2 (dCB A0 (a8 (b7 5) c8)) (dC (.int 1))) (a8 (b7 10) (a8 (dUn a2S (dC (.int 1))) (a8 (dCB A0 (a8 (b7 5) c8)) (a8 (dOp b2j (dC (.int 10)) (dC (.int 20))) (a8 (dOp M2 (dUn a2S (dC (.int 1))) (dCB A0 (a8 (b7 5) c8))) c8))))))))) (d7 11) (d8 (j8 (t9 (a8 (dC .non) (a8 (dC (.int 0)) c8))) (d7 12))
  (d8 (o9 (k7 (D6 pLe Q4 (dC (.int 0)) (b7 11) (dCB A0 (a8 (b7 5) c8)))) (j8 (t9 (a8 (dOp pIx (b7 6) (b7 11)) (a8 (dOp pIx (b7 7) (b7 11)) c8))) (d7 12)) k6)
  (d8 (j8 (dCB b1v (a8 (dC (.int 0)) (a8 (dOp M2 (dCB a0D (a8 (dOp pIx (b7 12) (dC (.int 1))) (a8 (dC (.int 400)) c8))) (l8 u9 (a8 (b7 1) (a8 (dC (.int 2)) c8)))) c8))) (d7 13))
  (O5 (G2 (dV (a8 (b7 13) (a8 (dOp pIx (dV (a8 (dC (.int 400)) (a8 (l8 u9 (a8 (b7 1) (a8 (dC (.int 401)) c8))) c8))) (l8 u9 (a8 (b7 1) (a8 (dC (.int 2)) c8)))) c8)))) (d7 14) (o9 (M3 (dTr (l8 a5n (a8 (b7 2) (a8 (b7 3) (a8 (b7 8) (a8 (b7 11) (a8 (b7 14) (a8 (b7 12) c8))))))))) (l9 (dC (.bl false))) k6))))))
  (l9 (dOp (pEq false) (b7 8) (b7 5)))))))))))))))
def atB(cs:List Clm)(j:Nat):Bool:=match cs[j]? with | some (.at _ _ _ _)=>true | _=>false
def S_q34:DSp:=k8 15 a4v
theorem b1d:∀ ds h Q,S_q34 ds h Q->k8 15 a4v ds h Q:=fun _ _ _ h=>h
theorem law_true(ns:List Int)(hl:ns.length <= 63)(hb:∀ x ∈ ns,Builtin.Int.intBits x <= 1048576):S_q34 [.scr (ns.map D.int)] [] (fun v _=>v = .bl true):=by
 unfold S_q34;delta k8 q8 a4v;simp only [VS];left;simp only [VV];refine ⟨ns,0,rfl,hl,hb,by right,fun y s b y0=>?_⟩;have g0:∀ o:O,([o]:Hh)[0]?=some o:=fun o=>rfl;subst hN;left;simp only [VV];refine ⟨0,y,s,16,b,rfl,rfl,y0,⟨by decide,by decide⟩,fun y1 s1 r1 y10 hr1=>?_⟩;show if ((r1:Int) == 15)=true then a7w [D.ref 0] [stO y1 s1 b] (fun v x=>v=D.bl true) else N [some (D.scr (List.map D.int ns)),some (D.ref 0),none,none,none,none,none,none,none,none,none,none,none,none,none] [stO y1 s1 b]
 refine b0H (fun _=>⟨0,y1,s1,b,rfl,rfl,y10,fun _ _=>rfl⟩) (fun _=>?_);subst hN;left;simp only [VV];refine ⟨ns,1,rfl,hl,hb,by right,fun yc sc bc yc0=>?_⟩;have lc:w6 [stO y1 s1 b,stO yc sc bc] (.ref 1)=some [.int yc,.int sc,.bl bc]:=rfl
 obtain ⟨mn,wd,dp,ed,m1,m2,w1,w2,d1,d2,e24,e4⟩:∃ mn wd dp ed:Nat,1 <= mn/\mn <= 6/\1 <= wd/\wd <= 10/\1 <= dp/\dp <= 6/\ed <= 24/\atI [D.tup [D.int 4,D.int 4,D.int 4,D.int 14],D.tup [D.int 6,D.int 10,D.int 6,D.int 24]] (if bc=true then 1 else 0)=some (.tup [nD mn,nD wd,nD dp,nD ed]):=by
  cases bc with
  |true=>exact ⟨6,10,6,24,by decide,by decide,by decide,by decide,by decide,by decide,by decide,rfl⟩
  |false=>exact ⟨4,4,4,14,by decide,by decide,by decide,by decide,by decide,by decide,by decide,rfl⟩
 simp only [r9 lc,VV];rw [e4];refine ⟨ns,mn,wd,dp,ed,rfl,hl,hb,m1,m2,w1,w2,d1,d2,e24,fun C wf=>?_⟩;obtain ⟨F0,hF0⟩:∃ d,C[0]?=some d:=⟨_,List.getElem?_eq_getElem (by have:=wf.one;omega)⟩
 obtain ⟨_,_,f1,f6,_,_⟩:=wf.fn 0 F0 hF0
 have ix0:∀ h',ixD h' (cD C) (.int 0)=some (fD F0):=fun h'=>by
  show atI (C.map fD) ((0:Nat):Int)=_;rw [atN,List.getElem?_map,hF0];rfl
 have p64:2 ^ F0.facts <= 64:=Nat.pow_le_pow_right (n:=2) (by decide) f6;have ppos:=Nat.two_pow_pos F0.facts;generalize stO yc sc bc=o1;show N _ [stO y1 s1 b,o1];subst hN;left;simp only [ix0,fD,VV];refine ⟨⟨by right,by right,by decide⟩,?_⟩;rw [b0w];refine ⟨0,y1,s1,_,b,rfl,rfl,y10,⟨by right,by right⟩,fun y2 s2 st0 y20 hst0=>?_⟩;show N _ [stO y2 s2 b,o1];subst hN;left
 have rest:∀ st:Nat,st < 2 ^ F0.facts->N [some (.scr (ns.map D.int)),some (.ref 0),some (cD C),some (nD st),none,none,none,none,none,none,none,none,none,none,none] [stO y2 s2 b,o1]:=fun st hst=>by
  subst hN;left;simp only [List.length_map,VV];obtain ⟨jA,eA,a1,a2⟩:∃ j:Int,(if (50:Int) < (ns.length:Int) then 50 else (ns.length:Int))=j/\0 <= j/\j <= 50:=⟨_,rfl,by split <;> omega,by split <;> omega⟩
  obtain ⟨jB,eB,b1,b2⟩:∃ j:Int,(if (63:Int) < (ns.length:Int) then 63 else (ns.length:Int))=j/\0 <= j/\j <= 63:=⟨_,rfl,by split <;> omega,by split <;> omega⟩
  rw [eA,eB];have sok:G9 3 jA 2:=⟨by decide,by decide,a1,by right,by decide,by decide⟩
  have sle:=a4H sok;obtain ⟨nA,hnA⟩:∃ n,E7 3 jA 2=n:=⟨_,rfl⟩
  obtain ⟨nB,hnB⟩:∃ n,(jB - 50).toNat=n:=⟨_,rfl⟩
  rw [hnA] at sle ⊢;rw [hnB]
  have ems:O2 3 2 nA ++ E4 50 nB=((List.range nA).map (fun k=>3 + k * 2) ++ (List.range nB).map (fun k=>50 + k)).map nD:=by
   rw [v9,List.map_append,List.map_map,List.map_map];rfl
  refine ⟨sok,⟨by decide,by decide,by right,by right⟩,by right,by rw [w4];unfold O2;rw [List.length_map,List.length_range];omega,?_⟩;rw [ems];have msl:((List.range nA).map (fun k=>3 + k * 2) ++ (List.range nB).map (fun k=>50 + k)).length <= 200:=by simp;omega
  have msb:∀ x ∈ ((List.range nA).map (fun k=>3 + k * 2) ++ (List.range nB).map (fun k=>50 + k)),x <= 1000:=fun x hx=>by
   rcases List.mem_append.mp hx with z | z
   ·obtain ⟨k,hk,rfl⟩:=List.mem_map.mp z
    have:=List.mem_range.mp hk
    omega
   ·obtain ⟨k,hk,rfl⟩:=List.mem_map.mp z
    have:=List.mem_range.mp hk
    omega
  generalize ((List.range nA).map (fun k=>3 + k * 2) ++ (List.range nB).map (fun k=>50 + k))=ms at msl msb;clear ems sle hnA hnB sok eA eB;subst hN;left;simp only [VV];refine ⟨ns,C,st,F0,ms,rfl,hl,hb,wf,hF0,hst,msl,msb,fun rs cs ws vs hrl pr=>?_⟩;obtain ⟨l1,l2,l3⟩:=pr.lens;simp only [VV];refine ⟨trivial,?_⟩;subst hN;left;simp only [VV];refine ⟨C,st,rs,cs,ws,vs,rfl,hrl,pr,?_⟩;subst hN;left;simp only [VV];subst hN;left;simp only [List.length_map,VV];refine ⟨by right,by rw [w4];omega,?_⟩;rw [v9,Int.toNat_natCast];refine a0U (fun j=>atB cs j) nD Src.ok_nil none (fun j hj K k=>?_) (fun j hj _ K k=>?_) ?_
  ·have hj:=List.mem_range.mp hj;obtain ⟨one,ho⟩:∃ y,cs[j]?=some y:=⟨_,List.getElem?_eq_getElem (by right)⟩
   have aj:atI (cs.map clD) (0 + (j:Int))=some (clD one):=by rw [Int.zero_add,atN,List.getElem?_map,ho];rfl
   unfold atB at k;rw [ho] at k
   cases one with
   |«at» f' p' d' x'=>simp only [aj,clD,VV];exact k
   |within g b p' d' x'=>simp only [aj,clD,VV];exact k
  ·simp only [VV];rw [Int.zero_add];exact k
  subst hN;left;simp only [List.length_map,VV];obtain ⟨mx,eM,x1,x2⟩:∃ j:Int,(if (1:Int) < (rs.length:Int) then (rs.length:Int) else 1)=j/\0 < j/\j <= 1000:=⟨_,rfl,by split <;> omega,by split <;> omega⟩
  rw [eM];refine ⟨0,y2,s2,_,b,rfl,rfl,y20,⟨x1,by right⟩,fun y3 s3 dr y30 hdr=>?_⟩;show N _ [stO y3 s3 b,o1];subst hN;left;obtain ⟨ks0,k1,k2,k3⟩:=b1e nD ((List.range rs.length).filter (fun j=>atB cs j)) (some (-4)) none;simp only [k1,List.length_map,VV];have k2':ks0.length <= 1000:=Nat.le_trans k2 (Nat.le_trans (List.length_filter_le _ _) (by rw [List.length_range];omega));refine ⟨⟨by decide,by decide,by decide⟩,by right,?_⟩
  have eks:List.map nD ks0 ++ [D.int (↑rs.length - 1),nD dr,D.int (-1),D.int ↑rs.length,D.int (10 ^ Int.toNat 20),D.int (-1 - ↑rs.length)]=(ks0.map (fun n:Nat=>(n:Int)) ++ [(rs.length:Int) - 1,(dr:Int),-1,(rs.length:Int),10 ^ Int.toNat 20,-1 - (rs.length:Int)]).map D.int:=by
   rw [List.map_append,List.map_map];rfl
  rw [eks]
  have kb:∀ k ∈ (ks0.map (fun n:Nat=>(n:Int)) ++ [(rs.length:Int) - 1,(dr:Int),-1,(rs.length:Int),10 ^ Int.toNat 20,-1 - (rs.length:Int)]),k.natAbs <= 2 ^ 70:=fun k hk=>by
   rcases List.mem_append.mp hk with z | z
   ·obtain ⟨n,hn,rfl⟩:=List.mem_map.mp z
    have:=List.mem_range.mp (List.mem_filter.mp (k3 n hn)).1
    omega
   ·simp only [List.mem_cons,List.not_mem_nil,or_false] at z
    rcases z with rfl | rfl | rfl | rfl | rfl | rfl
    ·omega
    ·omega
    ·decide
    ·omega
    ·decide
    ·omega
  generalize (ks0.map (fun n:Nat=>(n:Int)) ++ [(rs.length:Int) - 1,(dr:Int),-1,(rs.length:Int),10 ^ Int.toNat 20,-1 - (rs.length:Int)])=ks at kb;refine w5 (fun p δ h'=>∃ (y s:Int) (x11 x12 x13 x14:Option D),δ=[some (.scr (ns.map D.int)),some (.ref 0),some (cD C),some (nD st),some (.lst (ms.map nD)),some (.lst (rs.map rD)),some (.lst (cs.map clD)),some (.lst (ws.map fun w=>nD w.length)),some (.lst (rs.map rD)),some (.lst (((List.range rs.length).filter (fun j=>atB cs j)).map nD)),some (nD dr),x11,x12,x13,x14]/\h'=[stO y s b,o1]/\0 <= y) ⟨y3,s3,none,none,none,none,rfl,rfl,y30⟩ (fun _ _ _ _=>Src.ok_nil) ?_ ?_
  ·rintro p k r δ h' N1 e ⟨y,s,x11,x12,x13,x14,rfl,rfl,y0⟩ hN1
   have hk:=kb k (by rw [e];simp);simp only [VV];left;simp only [VV];subst hN;left
   have go:∀ (d1:D) (many:Nat),b7O rs cs ws k (.tup [d1,nD many])->N [some (.scr (ns.map D.int)),some (.ref 0),some (cD C),some (nD st),some (.lst (ms.map nD)),some (.lst (rs.map rD)),some (.lst (cs.map clD)),some (.lst (ws.map fun w=>nD w.length)),some (.lst (rs.map rD)),some (.lst (((List.range rs.length).filter (fun j=>atB cs j)).map nD)),some (nD dr),some (.int k),some (.tup [d1,nD many]),x13,x14] [stO y s b,o1]:=by
    intro d1 many td;subst hN;left;simp only [VV];refine ⟨0,y,s,2,b,rfl,rfl,y0,⟨by decide,by decide⟩,fun y4 s4 r4 y40 hr4=>?_⟩;show (fun y h2=>M2 (D.int (if (400:Int) < (many:Int) then 400 else (many:Int))) y h2 _) (nD r4) [stO y4 s4 b,o1];simp only [M2,VV]
    obtain ⟨nr,eN,n4⟩:∃ j:Nat,(if ((if (400:Int) < (many:Int) then 400 else (many:Int)) - (r4:Int)) > 0 then ((if (400:Int) < (many:Int) then 400 else (many:Int)) - (r4:Int)) else 0)=((j:Nat):Int)/\j <= 400:=by
     generalize hA:(if (400:Int) < (many:Int) then 400 else (many:Int))=A
     have:A <= 400:=by rw [<- hA];split <;> omega
     by_cases z:A - (r4:Int) > 0
     ·rw [if_pos z];exact ⟨(A - (r4:Int)).toNat,by right,by right⟩
     ·rw [if_neg z];exact ⟨0,rfl,by right⟩
    rw [eN];subst hN;simp only [VV];refine ⟨0,y4,s4,401,b,rfl,rfl,y40,⟨by decide,by decide⟩,fun y5 s5 r5 y50 hr5=>?_⟩;simp only [VV];refine ⟨0,y5,s5,2,b,rfl,rfl,y50,⟨by decide,by decide⟩,fun y6 s6 r6 y60 hr6=>?_⟩
    obtain ⟨m6,e6,b6⟩:∃ m6:Nat,atI [D.int 400,nD r5] (r6:Int)=some (nD m6)/\m6 <= 400:=by
     have:r6=0\/r6=1:=by right
     rcases this with rfl | rfl
     ·exact ⟨400,rfl,by decide⟩
     ·exact ⟨r5,rfl,by right⟩
    simp only [e6,VV];show a1G _ _ _ _ (List.map nD [nr,m6]) _ _;refine w5 (fun p δ h'=>∃ (x14:Option D),δ=[some (.scr (ns.map D.int)),some (.ref 0),some (cD C),some (nD st),some (.lst (ms.map nD)),some (.lst (rs.map rD)),some (.lst (cs.map clD)),some (.lst (ws.map fun w=>nD w.length)),some (.lst (rs.map rD)),some (.lst (((List.range rs.length).filter (fun j=>atB cs j)).map nD)),some (nD dr),some (.int k),some (.tup [d1,nD many]),some (nD nr),x14]/\h'=[stO y6 s6 b,o1]) ⟨_,rfl,rfl⟩ (fun _ _ _ _=>Src.ok_nil) ?_ ?_
    ·rintro p mo r δ h' N2 e ⟨x14,rfl,rfl⟩ hN2
     have hmo:mo <= 400:=by
      have:mo ∈ [nr,m6]:=by rw [e];simp
      simp only [List.mem_cons,List.not_mem_nil,or_false] at this;omega
     simp only [VV];refine ⟨C,st,.lst (rs.map rD),k,mo,_,F0,rs,cs,ws,vs,rfl,wf,hF0,rfl,by right,hmo,hk,pr,td,?_⟩;simp only [VV];exact hN2 _ _ ⟨_,rfl,rfl⟩
    ·rintro δ h' ⟨x14,rfl,rfl⟩
     exact hN1 _ _ ⟨y6,s6,_,_,_,_,rfl,rfl,y60⟩
   by_cases k0:0 <= k
   ·by_cases k1:k < ((rs.map rD).length:Int)
    ·rw [List.length_map] at k1;have k1':k < ((rs.map rD).length:Int):=by rw [List.length_map];exact k1
     obtain ⟨kn,rfl⟩:∃ kn:Nat,k=(kn:Int):=⟨k.toNat,by right⟩
     obtain ⟨cl,hc⟩:∃ c,cs[kn]?=some c:=⟨_,List.getElem?_eq_getElem (by right)⟩
     obtain ⟨w,hw⟩:∃ c,ws[kn]?=some c:=⟨_,List.getElem?_eq_getElem (by right)⟩
     have ac:atI (cs.map clD) (kn:Int)=some (clD cl):=by rw [atN,List.getElem?_map,hc];rfl
     have aw:atI (ws.map fun w=>nD w.length) (kn:Int)=some (nD w.length):=by rw [atN,List.getElem?_map,hw];rfl
     simp only [k0,k1',ac,aw,VV];exact go _ w.length (.inr ⟨kn,cl,w,rfl,hc,hw,rfl⟩)
    ·simp only [k0,k1,VV];exact go .non 0 (.inl ⟨fun z=>k1 (by rw [List.length_map];exact z.2),rfl⟩)
   ·simp only [k0,VV];exact go .non 0 (.inl ⟨fun z=>k0 z.1,rfl⟩)
  ·rintro δ h' ⟨y,s,x11,x12,x13,x14,rfl,rfl,y0⟩
   subst hN;simp only [VV1];exact T9 rfl (.lst (Pds.map (b8k _))) (.lst (Pds.map (b8k _))) (by decide) rfl
 have ls0:w6 [stO y2 s2 b,o1] (.ref 0)=some [.int y2,.int s2,.bl b]:=rfl
 cases b with
 |true=>simp only [r9 ls0,VV];exact rest _ (by right)
 |false =>
  simp only [r9 ls0,VV];rw [show (1:Int)=((1:Nat):Int) from rfl,a4h];exact rest _ (Nat.or_lt_two_pow (by right) (Nat.lt_of_lt_of_le (by decide:1 < 2 ^ 1) (Nat.pow_le_pow_right (by decide) f1)))
theorem b5f{f:Addr}{fd:FuncData}(F:Fun K "law" "law" V0 f fd)(T:Txt P w K mg)(C_q18:Cal P w K mg base 2 "_law_state" ["_law_script","_law_k"] (spD K 2 S2))(C_q12:Cal P w K mg base 1 "_law_next" ["_law_state_here","_law_many_here"] (spD K 2 u9))(C_q3:Cal P w K mg base 10 "_law_chain_right" ["_law_state_here"] (spD K 1 a7w))(C_q4:Cal P w K mg base 4 "_law_chart" ["_law_script","_law_sizes","_law_gap"] (spD K 3 b2i))(C_q14:Cal P w K mg base 4 "_law_paper" ["_law_script","_law_chart_here","_law_start","_law_cells"] (spD K 4 a4R))(C_q10:Cal P w K mg base 1 "_law_many" ["_law_rows"] (spD K 1 a4C))(C_q0:Cal P w K mg base 9 "_law_asked" ["_law_chart_here","_law_start","_law_rows","_law_k","_law_most","_law_told"] (spD K 6 a5n)):u7 P w K mg base CX0 11 f fd ["_law_script"] (spD K 1 S_q34) :=
 z8 (k:=10) (b:=a4v) F sc_q34 (fun cdv A outer s H E hr=>by
  refine b9 ?_ ?_
  ·exact g7 (i:=1) sc_q34.nd rfl (Or.inl rfl) (f7 C_q18 (hr.mono (by decide)) rfl (a7 (sv 0) (a7 a9 b8)))
  refine b9 ?_ ?_
  ·refine p7 ?_ ?_ g6
   ·exact e7 (o7 hr.units) (f7 C_q12 (hr.mono (by decide)) rfl (a7 (sv 1) (a7 a9 b8))) a9
   exact d0 (g9 (f7 C_q3 (hr.mono (by decide)) rfl (a7 (sv 1) b8)))
  refine b9 ?_ ?_
  ·refine g7 (i:=2) ?_ ?_ ?_ ?_
   ·exact sc_q34.nd
   ·exact rfl
   ·exact Or.inl rfl
   exact f7 C_q4 (hr.mono (by decide)) rfl (a7 (sv 0) (a7 (c7 c6 (C9 (t7 (a7 (i8 (a7 a9 (a7 a9 (a7 a9 (a7 a9 b8))))) (a7 (i8 (a7 a9 (a7 a9 (a7 a9 (a7 a9 b8))))) b8)))) (z7 J8 rfl T.b_int PyProof.Rows.boot_int (a7 (c7 c6 (f7 C_q18 (hr.mono (by decide)) rfl (a7 (sv 0) (a7 a9 b8))) a9) b8))) (a7 a9 b8)))
  refine b9 ?_ ?_
  ·refine g7 (i:=3) sc_q34.nd rfl (Or.inl rfl) ?_;exact f7 C_q12 (hr.mono (by decide)) rfl (a7 (sv 1) (a7 (g8 a0w a9 (c7 c6 (c7 c6 (sv 2) a9) a9)) b8))
  refine b9 ?_ ?_
  ·refine p7 (A9 (o8 (c7 c6 (sv 1) a9))) ?_ g6;refine d0 ?_;exact g7 (i:=3) sc_q34.nd rfl (Or.inl rfl) (g8 a7m (sv 3) a9)
  refine b9 ?_ ?_
  ·refine g7 (i:=4) sc_q34.nd rfl (Or.inl rfl) ?_;exact g8 m7 (C9 (a2r rfl rfl T.b_list rfl T.b_range (a7 a9 (a7 (f9 (P3 rfl) rfl T.b_min PyProof.Rows.boot_min (a7 (f9 n8 rfl T.b_len PySem.boot_len (a7 (sv 0) b8)) (a7 a9 b8))) (a7 a9 b8))))) (C9 (a3R rfl rfl T.b_list rfl T.b_range (a7 a9 (a7 (f9 (P3 rfl) rfl T.b_min PyProof.Rows.boot_min (a7 (f9 n8 rfl T.b_len PySem.boot_len (a7 (sv 0) b8)) (a7 a9 b8))) b8))))
  refine b9 ?_ ?_
  ·exact Y0 (f7 C_q14 (hr.mono (by decide)) rfl (a7 (sv 0) (a7 (sv 2) (a7 (sv 3) (a7 (sv 4) b8))))) (P6 rfl (u6 (j9 (i:=5) sc_q34.nd rfl (Or.inl rfl)) (u6 (j9 (i:=6) sc_q34.nd rfl (Or.inr rfl)) K8)))
  refine b9 ?_ ?_
  ·exact g7 (i:=7) sc_q34.nd rfl (Or.inl rfl) (f7 C_q10 (hr.mono (by decide)) rfl (a7 (sv 5) b8))
  refine b9 ?_ ?_
  ·refine g7 (i:=8) sc_q34.nd rfl (Or.inl rfl) ?_;exact C9 (b1c rfl T.b_list (a7 (sv 5) b8))
  refine b9 ?_ ?_
  ·exact a1Z (i:=9) (hN:=sc_q34.nd) (hix:=rfl) (hx:=(Or.inl rfl)) rfl (N':= ["_law_k","_law_done"]) (js:=[none,some 6]) ⟨rfl,by decide +kernel,rfl,rfl,rfl⟩ (B0 rfl T.b_range (a7 (f9 n8 rfl T.b_len PySem.boot_len (a7 (sv 5) b8)) b8)) (fun s0 H0 fp=>⟨(j9 (i:=0) (show (["_law_k","_law_done"]:List Str).Nodup by decide +kernel) rfl (Or.inl rfl)),(a0m (e7 (o7 hr.units) (c7 c6 (c7 c6 (sv 1) (sv 0)) a9) f8)),(sv 0)⟩)
  refine b9 ?_ ?_
  ·refine g7 (i:=10) sc_q34.nd rfl (Or.inl rfl) ?_;exact f7 C_q12 (hr.mono (by decide)) rfl (a7 (sv 1) (a7 (f9 (a9h rfl) rfl T.b_max PyProof.Rows.boot_max (a7 a9 (a7 (f9 n8 rfl T.b_len PySem.boot_len (a7 (sv 5) b8)) b8))) b8))
  refine b9 ?_ (d0 (g9 (E5 (o7 hr.units) (sv 8) (sv 5))));refine J0 PassesOwn.never rfl ?_ (j9 (i:=11) sc_q34.nd rfl (Or.inl rfl)) ?_
  ·exact B9 (g8 m7 (a4q (sv 9) (W1 (a0v S7 a9)) a1t) (C9 (t7 (a7 (g8 C8 (f9 n8 rfl T.b_len PySem.boot_len (a7 (sv 5) b8)) a9) (a7 (sv 10) (a7 (a0v S7 a9) (a7 (f9 n8 rfl T.b_len PySem.boot_len (a7 (sv 5) b8)) (a7 (g8 a3n a9 a9) (a7 (g8 C8 (a0v S7 a9) (f9 n8 rfl T.b_len PySem.boot_len (a7 (sv 5) b8))) b8)))))))))
  refine b9 ?_ ?_
  ·refine g7 (i:=12) sc_q34.nd rfl (Or.inl rfl) ?_;exact i8 (a7 l7 (a7 a9 b8))
  refine b9 ?_ ?_
  ·refine p7 ?_ ?_ g6
   ·exact B3 K5 F8 a9 (sv 11) (f9 n8 rfl T.b_len PySem.boot_len (a7 (sv 5) b8))
   refine d0 ?_;refine g7 (i:=12) ?_ ?_ ?_ ?_
   ·exact sc_q34.nd
   ·exact rfl
   ·exact Or.inl rfl
   refine i8 (n:=2) ?_;exact a7 (c7 c6 (sv 6) (sv 11)) (a7 (c7 c6 (sv 7) (sv 11)) b8)
  refine b9 ?_ ?_
  ·refine g7 (i:=13) sc_q34.nd rfl (Or.inl rfl) ?_;exact f9 (a9h rfl) rfl T.b_max PyProof.Rows.boot_max (a7 a9 (a7 (g8 C8 (f9 (P3 rfl) rfl T.b_min PyProof.Rows.boot_min (a7 (c7 c6 (sv 12) a9) (a7 a9 b8))) (f7 C_q12 (hr.mono (by decide)) rfl (a7 (sv 1) (a7 a9 b8)))) b8))
  refine d0 ?_;refine J0 PassesOwn.never rfl ?_ (j9 (i:=14) sc_q34.nd rfl (Or.inl rfl)) ?_
  ·exact B9 (C9 (t7 (a7 (sv 13) (a7 (c7 c6 (C9 (t7 (a7 a9 (a7 (f7 C_q12 (hr.mono (by decide)) rfl (a7 (sv 1) (a7 a9 b8))) b8)))) (f7 C_q12 (hr.mono (by decide)) rfl (a7 (sv 1) (a7 a9 b8)))) b8))))
  refine d0 ?_;refine p7 ?_ (d0 (g9 Y2)) g6;exact A9 (o8 (f7 C_q0 (hr.mono (by decide)) rfl (a7 (sv 2) (a7 (sv 3) (a7 (sv 8) (a7 (sv 11) (a7 (sv 14) (a7 (sv 12) b8))))))))) b1d
end
theorem a0l{P:Program}{w:World}{K:PySem.W.Frag}{a:Addr}{t1 t2 t3 t4 t5 t6:Tok}{ep:Nat}(l:K.lookup a=some { cls:=.type "dict",data:=.dict #[{ hash:=PyData.keyHash w.params "step",key:=.str "step" t1,val:=.int 4 t2 },{ hash:=PyData.keyHash w.params "in",key:=.str "in" t3,val:=.int 5 t4 },{ hash:=PyData.keyHash w.params "over",key:=.str "over" t5,val:=.int 7 t6 }] ep }):a4L P w K a (k_MOVE_TABLES.map fun p=>(p.1,V.int p.2)):=by
 have ks:∀ (x:Str) (t:Tok),Y1 (.inr x) (.str x t)=true:=fun x t=>by simp [Y1,Value.isStrOf]
 refine ⟨_,_,_,[(.inr "step",.int 4 t2),(.inr "in",.int 5 t4),(.inr "over",.int 7 t6)],l,⟨rfl,rfl,rfl⟩,rfl,?_,.cons (ks _ t1) rfl (.cons (ks _ t3) rfl (.cons (ks _ t5) rfl .nil)),(show [(.inr "step":Key),.inr "in",.inr "over"].Nodup by decide +kernel),.cons ⟨rfl,⟨_,rfl⟩⟩ (.cons ⟨rfl,⟨_,rfl⟩⟩ (.cons ⟨rfl,⟨_,rfl⟩⟩ .nil))⟩;intro e he;simp only [List.mem_toArray,List.mem_cons,List.not_mem_nil,or_false] at he
 rcases he with rfl | rfl | rfl
 ·exact ⟨.inr "step",ks _ t1,rfl⟩
 ·exact ⟨.inr "in",ks _ t3,rfl⟩
 ·exact ⟨.inr "over",ks _ t5,rfl⟩
theorem A3{α:Type}{n:Nat}{us:List α}(h:us.length=n + 1):∃ a t,us=a :: t/\t.length=n:=by
 cases us with
 |nil=>cases h
 |cons a t=>exact ⟨a,t,rfl,Nat.succ.inj h⟩
theorem X8{α:Type}{us:List α}(h:us.length=0):us=[]:=List.length_eq_zero_iff.mp h
theorem ln1{F:FuncData}{ps:List Str}{us:List Value}(h:us.length=1)(k:∀ a,bindArgs F ⟨[a],[]⟩=pure (ps.zip [a])):bindArgs F ⟨us,[]⟩=pure (ps.zip us):=by
 obtain ⟨a,us1,rfl,h1⟩:=A3 h
 cases X8 h1
 exact k a
theorem ln2{F:FuncData}{ps:List Str}{us:List Value}(h:us.length=2)(k:∀ a b,bindArgs F ⟨[a,b],[]⟩=pure (ps.zip [a,b])):bindArgs F ⟨us,[]⟩=pure (ps.zip us):=by
 obtain ⟨a,us1,rfl,h1⟩:=A3 h;obtain ⟨b,us2,rfl,h2⟩:=A3 h1
 cases X8 h2
 exact k a b
theorem ln3{F:FuncData}{ps:List Str}{us:List Value}(h:us.length=3)(k:∀ a b c,bindArgs F ⟨[a,b,c],[]⟩=pure (ps.zip [a,b,c])):bindArgs F ⟨us,[]⟩=pure (ps.zip us):=by
 obtain ⟨a,us1,rfl,h1⟩:=A3 h;obtain ⟨b,us2,rfl,h2⟩:=A3 h1;obtain ⟨c,us3,rfl,h3⟩:=A3 h2
 cases X8 h3
 exact k a b c
theorem ln4{F:FuncData}{ps:List Str}{us:List Value}(h:us.length=4)(k:∀ a b c d,bindArgs F ⟨[a,b,c,d],[]⟩=pure (ps.zip [a,b,c,d])):bindArgs F ⟨us,[]⟩=pure (ps.zip us):=by
 obtain ⟨a,us1,rfl,h1⟩:=A3 h;obtain ⟨b,us2,rfl,h2⟩:=A3 h1;obtain ⟨c,us3,rfl,h3⟩:=A3 h2;obtain ⟨d,us4,rfl,h4⟩:=A3 h3
 cases X8 h4
 exact k a b c d
theorem ln5{F:FuncData}{ps:List Str}{us:List Value}(h:us.length=5)(k:∀ a b c d e,bindArgs F ⟨[a,b,c,d,e],[]⟩=pure (ps.zip [a,b,c,d,e])):bindArgs F ⟨us,[]⟩=pure (ps.zip us):=by
 obtain ⟨a,us1,rfl,h1⟩:=A3 h;obtain ⟨b,us2,rfl,h2⟩:=A3 h1;obtain ⟨c,us3,rfl,h3⟩:=A3 h2;obtain ⟨d,us4,rfl,h4⟩:=A3 h3;obtain ⟨e,us5,rfl,h5⟩:=A3 h4
 cases X8 h5
 exact k a b c d e
theorem ln6{F:FuncData}{ps:List Str}{us:List Value}(h:us.length=6)(k:∀ a b c d e f,bindArgs F ⟨[a,b,c,d,e,f],[]⟩=pure (ps.zip [a,b,c,d,e,f])):bindArgs F ⟨us,[]⟩=pure (ps.zip us):=by
 obtain ⟨a,us1,rfl,h1⟩:=A3 h;obtain ⟨b,us2,rfl,h2⟩:=A3 h1;obtain ⟨c,us3,rfl,h3⟩:=A3 h2;obtain ⟨d,us4,rfl,h4⟩:=A3 h3;obtain ⟨e,us5,rfl,h5⟩:=A3 h4;obtain ⟨f,us6,rfl,h6⟩:=A3 h5
 cases X8 h6
 exact k a b c d e f
theorem b9y{p:List Value->Prop}{us:List Value}(h:us.length=4)(k:∀ a b c d,p [a,b,c,d]):p us:=by
 obtain ⟨a,us1,rfl,h1⟩:=A3 h;obtain ⟨b,us2,rfl,h2⟩:=A3 h1;obtain ⟨c,us3,rfl,h3⟩:=A3 h2;obtain ⟨d,us4,rfl,h4⟩:=A3 h3
 cases X8 h4
 exact k a b c d
theorem b9u{p:List Value->Prop}{us:List Value}(h:us.length=5)(k:∀ a b c d e,p [a,b,c,d,e]):p us:=by
 obtain ⟨a,us1,rfl,h1⟩:=A3 h;obtain ⟨b,us2,rfl,h2⟩:=A3 h1;obtain ⟨c,us3,rfl,h3⟩:=A3 h2;obtain ⟨d,us4,rfl,h4⟩:=A3 h3;obtain ⟨e,us5,rfl,h5⟩:=A3 h4
 cases X8 h5
 exact k a b c d e
def Gt(K:PySem.W.Frag)(x:Str)(st:Stmt):Prop:=∃ (a:Addr) (an:Option Addr) (kV dc pm cd ct:Value),PySem.W.nsIn K mainGlobals x=some (some (.ref a))/\Fun K x x st a (PySem.W.fnOf x x (F7 st) (A5 st) (d9 st) .none kV dc pm an cd ct)/\PySem.W.keepIn K (.ref a)=true
theorem gt_mk{K:PySem.W.Frag}{x:Str}{st:Stmt}{a:Addr}{od an:Option Addr}{sl:Array (Option Value)}{oc kV dc pm cd ct:Value}(e:PySem.W.nsIn K mainGlobals x=some (some (.ref a)))(l:K.lookup a=some ⟨oc,od,.func (PySem.W.fnOf x x (F7 st) (A5 st) (d9 st) .none kV dc pm an cd ct),sl⟩)(c:PySem.W.codeIn K cd x=true)(k:PySem.W.keepIn K (.ref a)=true):Gt K x st:=⟨a,an,kV,dc,pm,cd,ct,e,a1y (st:=st) l c k,k⟩
theorem Gt.cal{P:Program}{w:World}{K:PySem.W.Frag}{mg:Str->Option Value}{h base:Heap}{x:Str}{st:Stmt}{k:Nat}{ps:List Str}{S:Sp}(g:Gt K x st)(X:K.In h)(G:h.Ns mainGlobals mg)(ok:∀ {f fd},Fun K x x st f fd->u7 P w K mg base CX0 k f fd ps S)(hb:∀ {an kV dc pm cd ct} (us:List Value),us.length=ps.length->bindArgs (PySem.W.fnOf x x (F7 st) (A5 st) (d9 st) .none kV dc pm an cd ct) ⟨us,[]⟩=pure (ps.zip us)):Cal P w K mg base k x ps S:=by
 obtain ⟨a,an,kV,dc,pm,cd,ct,e,F,kp⟩:=g;exact ⟨a,_,ok F,PySem.W.mg_of X G e,kp,.all fun us hl=>hb us hl⟩
theorem all_mk{l:PySem.W.OpenLaw}{w:World}{K:PySem.W.Frag}{h:Heap}{mg:Str->Option Value}{fa a_q41 a_q34:Addr}(X:K.In h)(G:h.Ns mainGlobals mg)(hfa:mg "law" = some (.ref fa))
  {od_q41 an_q41:Option Addr} {sl_q41:Array (Option Value)} {oc_q41 kV_q41 dc_q41 pm_q41 cd_q41 ct_q41:Value}
  {od_q34 an_q34:Option Addr} {sl_q34:Array (Option Value)} {oc_q34 kV_q34 dc_q34 pm_q34 cd_q34 ct_q34:Value}
  (g_q31:Gt K "facts_in" a7z)
  (g_q23:Gt K "brings" a6t)
  (g_q30:Gt K "exit_of" a6T)
  (g_q40:Gt K "start_facts" a6k)
  (g_q29:Gt K "edge_taken" a8T)
  (g_q26:Gt K "claims" a7q)
  (g_q25:Gt K "claim_of" a9k)
  (g_q24:Gt K "claim_ahead" a8e)
  (g_q22:Gt K "begin_claim" a7v)
  (g_q39:Gt K "start_claim" a8V)
  (g_q28:Gt K "edge_claim" a7Q)
  (g_q38:Gt K "short_claim" a8M)
  (g_q33:Gt K "in_claim" a7t)
  (g_q21:Gt K "along_claim" a8s)
  (g_q35:Gt K "move_of" a7X)
  {dT_q41:Addr} {do_q41:Obj} {dn_q41:Nat} {dk_unrolled_0:Tok}
  (e_q41:PySem.W.nsIn K mainGlobals "unrolled" = some (some (.ref a_q41))) (l_q41:K.lookup a_q41=some ⟨oc_q41,od_q41,.func (PySem.W.fnOf "unrolled" "unrolled" (F7 V3) (A5 V3) (d9 V3) (.ref dT_q41) kV_q41 dc_q41 pm_q41 an_q41 cd_q41 ct_q41),sl_q41⟩) (c_q41:PySem.W.codeIn K cd_q41 "unrolled" = true) (k_q41:PySem.W.keepIn K (.ref a_q41)=true)
  (dl_q41:K.lookup dT_q41=some do_q41) (ds_q41:do_q41.data = .seq #[.int 400 dk_unrolled_0] dn_q41)
  (g_q37:Gt K "parts_of" a7a)
  (g_q27:Gt K "counted" a8B)
  (g_q32:Gt K "first_fact" a8O)
  (g_q36:Gt K "moves_of" a6J)
  (g_q2:Gt K "_law_cell" b5m)
  (g_q18:Gt K "_law_state" a6P)
  (g_q12:Gt K "_law_next" a9a)
  (g_q8:Gt K "_law_facts" b5P)
  (g_q19:Gt K "_law_table" a8w)
  (g_q6:Gt K "_law_edge" b4H)
  (g_q4:Gt K "_law_chart" b4Z)
  (g_q1:Gt K "_law_brings" b4J)
  (g_q7:Gt K "_law_edge_of" b4u)
  (g_q17:Gt K "_law_short" a7V)
  (g_q13:Gt K "_law_onward" a6o)
  (g_q5:Gt K "_law_claim" b5o)
  (g_q9:Gt K "_law_inner" b5d)
  (g_q16:Gt K "_law_rows_from" a8r)
  (g_q14:Gt K "_law_paper" a7y)
  (g_q10:Gt K "_law_many" a6n)
  (g_q11:Gt K "_law_moved" a9m)
  (g_q20:Gt K "_law_walks" a7U)
  (g_q15:Gt K "_law_refused" a9c)
  (g_q0:Gt K "_law_asked" b3w)
  (g_q3:Gt K "_law_chain_right" b3V)
  (e_q34:PySem.W.nsIn K mainGlobals "law" = some (some (.ref a_q34))) (l_q34:K.lookup a_q34=some ⟨oc_q34,od_q34,.func (PySem.W.fnOf "law" "law" (F7 V0) (A5 V0) (d9 V0) .none kV_q34 dc_q34 pm_q34 an_q34 cd_q34 ct_q34),sl_q34⟩) (c_q34:PySem.W.codeIn K cd_q34 "law" = true) (k_q34:PySem.W.keepIn K (.ref a_q34)=true)
  (z_ValueError:PySem.W.nsIn K mainGlobals "ValueError" = some none)
  (z_abs:PySem.W.nsIn K mainGlobals "abs" = some none)
  (z_bool:PySem.W.nsIn K mainGlobals "bool" = some none)
  (z_enumerate:PySem.W.nsIn K mainGlobals "enumerate" = some none)
  (z_int:PySem.W.nsIn K mainGlobals "int" = some none)
  (z_isinstance:PySem.W.nsIn K mainGlobals "isinstance" = some none)
  (z_len:PySem.W.nsIn K mainGlobals "len" = some none)
  (z_list:PySem.W.nsIn K mainGlobals "list" = some none)
  (z_max:PySem.W.nsIn K mainGlobals "max" = some none)
  (z_min:PySem.W.nsIn K mainGlobals "min" = some none)
  (z_range:PySem.W.nsIn K mainGlobals "range" = some none)
  (z_reversed:PySem.W.nsIn K mainGlobals "reversed" = some none)
  (z_tuple:PySem.W.nsIn K mainGlobals "tuple" = some none)
  {da_MOVE_TABLES:Addr} {t1 t2 t3 t4 t5 t6:Tok} {ep:Nat} (y_MOVE_TABLES:PySem.W.nsIn K mainGlobals "MOVE_TABLES" = some (some (.ref da_MOVE_TABLES))) (d_MOVE_TABLES:K.lookup da_MOVE_TABLES=some { cls:=.type "dict",data:=.dict #[{ hash:=PyData.keyHash w.params "step",key:=.str "step" t1,val:=.int 4 t2 },{ hash:=PyData.keyHash w.params "in",key:=.str "in" t3,val:=.int 5 t4 },{ hash:=PyData.keyHash w.params "over",key:=.str "over" t5,val:=.int 7 t6 }] ep })
  {C_NoPaper:Addr} (e_NoPaper:PySem.W.nsIn K mainGlobals "NoPaper" = some (some (.ref C_NoPaper)))
  {C_CallError:Addr} (e_CallError:PySem.W.nsIn K mainGlobals "CallError" = some (some (.ref C_CallError)))
  {C_NoChart:Addr} (e_NoChart:PySem.W.nsIn K mainGlobals "NoChart" = some (some (.ref C_NoChart)))
  {C_NoName:Addr} (e_NoName:PySem.W.nsIn K mainGlobals "NoName" = some (some (.ref C_NoName)))
  {C_NoTable:Addr} (e_NoTable:PySem.W.nsIn K mainGlobals "NoTable" = some (some (.ref C_NoTable)))
  {C_NoText:Addr} (e_NoText:PySem.W.nsIn K mainGlobals "NoText" = some (some (.ref C_NoText)))
  {C_NoWay:Addr} (e_NoWay:PySem.W.nsIn K mainGlobals "NoWay" = some (some (.ref C_NoWay)))
  {C_TooLong:Addr} (e_TooLong:PySem.W.nsIn K mainGlobals "TooLong" = some (some (.ref C_TooLong)))
  {xnm xq:Str} {xN xf:Addr} {xbs xbm xsub:List Value} {xsn:List Str} {xab:Bool} {xcol:Option Bool} {xdd:Option Addr} {x0 x1 x2 x3 x5:Option Value}
  (l_NoPaper:K.lookup C_NoPaper=some (excClassObj xnm xq C_NoPaper xN xbs xbm true xsn xsub xab xcol xdd x0 x1 x2 x3 x5 "ValueError.__new__")) (t_NoPaper:PySem.W.tailIn K bmV xbm=true) (o_NoPaper:PySem.W.nsOkIn K xN=true) (i_NoPaper:PySem.W.nsIn K xN "__init__" = some (some (.ref xf)))
  {od_i an_i:Option Addr} {sl_i:Array (Option Value)} {kV_i dc_i pm_i cd_i ct_i:Value}
  (l_i:K.lookup xf=some ⟨.type "function",od_i,.func (PySem.W.fnOf "__init__" "NoPaper.__init__" (F7 p8) (A5 p8) (d9 p8) .none kV_i dc_i pm_i an_i cd_i ct_i),sl_i⟩) (c_i:PySem.W.codeIn K cd_i "NoPaper.__init__" = true) (k_i:PySem.W.keepIn K (.ref xf)=true)
  (sa_NoPaper:PySem.W.findIn K (.ref C_NoPaper) "__setattr__" = some (some (.builtin "object.__setattr__"))) (ga_NoPaper:PySem.W.findIn K (.ref C_NoPaper) "__getattribute__" = some (some (.builtin "BaseException.__getattribute__"))) (gg_NoPaper:PySem.W.findIn K (.ref C_NoPaper) "__getattr__" = some none) (cl_NoPaper:PySem.W.findIn K (.ref C_NoPaper) "__class__" = some (some (.builtin "object.__class__"))) (cg_NoPaper:PySem.W.specialIn K (.builtin "object.__class__") "__get__" = some (some (.builtin "getset_descriptor.__get__"))) (ct_NoPaper:PySem.W.takesIn K (.builtin "object.__class__")=some true) (mo_NoPaper:PySem.W.mroIn K C_NoPaper (.type "object")=some true)
  (n_row:PySem.W.findIn K (.ref C_NoPaper) "row" = some none)
  (rd_CallError:PySem.W.readsIn K C_CallError (.type "type")=true) (fc_CallError:PySem.W.findCls K (.ref C_CallError) (.type "type") "__init__" = some (.val (.builtin "ValueError.__init__"))) (sp_CallError:PySem.W.specialIn K (.ref C_CallError) "__getattribute__" = some (some (.builtin "type.__getattribute__")))
  {ynm yq:Str} {yN:Addr} {ybs ybm ysub:List Value} {ysn:List Str} {yab:Bool} {ycol:Option Bool} {ydd:Option Addr} {y0 y1 y2 y3 y5:Option Value}
  (l_TooLong:K.lookup C_TooLong=some (excClassObj ynm yq C_TooLong yN ybs ybm true ysn ysub yab ycol ydd y0 y1 y2 y3 y5 "ValueError.__new__")) (t_TooLong:PySem.W.tailIn K bmV ybm=true) (o_TooLong:PySem.W.nsOkIn K yN=true) (i_TooLong:PySem.W.nsIn K yN "__init__" = some none)
  (ga_TooLong:PySem.W.findIn K (.ref C_TooLong) "__getattribute__" = some (some (.builtin "BaseException.__getattribute__"))) (gg_TooLong:PySem.W.findIn K (.ref C_TooLong) "__getattr__" = some none) (cl_TooLong:PySem.W.findIn K (.ref C_TooLong) "__class__" = some (some (.builtin "object.__class__"))) (cg_TooLong:PySem.W.specialIn K (.builtin "object.__class__") "__get__" = some (some (.builtin "getset_descriptor.__get__"))) (ct_TooLong:PySem.W.takesIn K (.builtin "object.__class__")=some true) (mo_TooLong:PySem.W.mroIn K C_TooLong (.type "object")=some true)
  (m_CallError:PySem.W.exmOne K (.ref C_NoPaper) (.ref C_CallError)=some true)
  (m2_CallError:PySem.W.exmOne K (.ref C_TooLong) (.ref C_CallError)=some true)
  (q_NoChart:PySem.W.kitOne K (.ref C_NoPaper) (.ref C_NoChart)=some false)
  (q2_NoChart:PySem.W.kitOne K (.ref C_TooLong) (.ref C_NoChart)=some false)
  (q_NoName:PySem.W.kitOne K (.ref C_NoPaper) (.ref C_NoName)=some false)
  (q2_NoName:PySem.W.kitOne K (.ref C_TooLong) (.ref C_NoName)=some false)
  (q_NoPaper:PySem.W.kitOne K (.ref C_NoPaper) (.ref C_NoPaper)=some true)
  (q2_NoPaper:PySem.W.kitOne K (.ref C_TooLong) (.ref C_NoPaper)=some false)
  (q_NoTable:PySem.W.kitOne K (.ref C_NoPaper) (.ref C_NoTable)=some false)
  (q2_NoTable:PySem.W.kitOne K (.ref C_TooLong) (.ref C_NoTable)=some false)
  (q_NoText:PySem.W.kitOne K (.ref C_NoPaper) (.ref C_NoText)=some false)
  (q2_NoText:PySem.W.kitOne K (.ref C_TooLong) (.ref C_NoText)=some false)
  (q_NoWay:PySem.W.kitOne K (.ref C_NoPaper) (.ref C_NoWay)=some false)
  (q2_NoWay:PySem.W.kitOne K (.ref C_TooLong) (.ref C_NoWay)=some false)
  (q_TooLong:PySem.W.kitOne K (.ref C_NoPaper) (.ref C_TooLong)=some false)
  (q2_TooLong:PySem.W.kitOne K (.ref C_TooLong) (.ref C_TooLong)=some true)
  (q_ValueError:PySem.W.kitOne K (.ref C_NoPaper) (.type "ValueError")=some true)
  (q2_ValueError:PySem.W.kitOne K (.ref C_TooLong) (.type "ValueError")=some true)
  : ∃ fd:FuncData,(∀ (s:Shared) (v:Value),BindsTo s fd ⟨[v],[]⟩ [("_law_script",v)])/\∀ base:Heap,K.In base->base.Ns mainGlobals mg->u7 l.prog w K mg base CX0 11 fa fd ["_law_script"] (spD K 1 S_q34):=by
 have e:=hfa.symm.trans (PySem.W.mg_of X G e_q34);cases e;have XC:XCls K C_NoPaper xf:=⟨⟨_,_,_,_,_,_,_,_,_,_,_,_,_,_,_,l_NoPaper,t_NoPaper,o_NoPaper,i_NoPaper⟩,⟨_,l_i,rfl⟩,sa_NoPaper,ga_NoPaper,gg_NoPaper,cl_NoPaper,cg_NoPaper,ct_NoPaper,mo_NoPaper⟩
 have X02:a9e K C_TooLong:=⟨⟨_,_,_,_,_,_,_,_,_,_,_,_,_,_,_,l_TooLong,t_TooLong,o_TooLong,i_TooLong⟩⟩
 have XI2:XIs K C_TooLong:=⟨⟨_,_,_,_,_,_,_,_,_,_,_,_,_,_,_,l_TooLong,t_TooLong⟩,ga_TooLong,gg_TooLong,cl_TooLong,cg_TooLong,ct_TooLong,mo_TooLong⟩
 have T:Txt l.prog w K mg:=⟨PySem.W.mg_none_of X G z_ValueError,PySem.W.mg_none_of X G z_abs,PySem.W.mg_none_of X G z_bool,PySem.W.mg_none_of X G z_enumerate,PySem.W.mg_none_of X G z_int,PySem.W.mg_none_of X G z_isinstance,PySem.W.mg_none_of X G z_len,PySem.W.mg_none_of X G z_list,PySem.W.mg_none_of X G z_max,PySem.W.mg_none_of X G z_min,PySem.W.mg_none_of X G z_range,PySem.W.mg_none_of X G z_reversed,PySem.W.mg_none_of X G z_tuple,⟨_,PySem.W.mg_of X G y_MOVE_TABLES,a0l d_MOVE_TABLES⟩,⟨_,PySem.W.mg_of X G e_CallError,fun C h=>by rw [e_NoPaper] at h;cases h;exact m_CallError⟩,⟨_,PySem.W.mg_of X G e_CallError,fun C h=>by rw [e_TooLong] at h;cases h;exact m2_CallError⟩,⟨_,e_NoPaper,XC.is⟩,⟨_,e_TooLong,XI2⟩,⟨_,PySem.W.mg_of X G e_NoChart,⟨_,e_NoPaper,q_NoChart⟩⟩,⟨_,PySem.W.mg_of X G e_NoChart,⟨_,e_TooLong,q2_NoChart⟩⟩,⟨_,PySem.W.mg_of X G e_NoName,⟨_,e_NoPaper,q_NoName⟩⟩,⟨_,PySem.W.mg_of X G e_NoName,⟨_,e_TooLong,q2_NoName⟩⟩,⟨_,PySem.W.mg_of X G e_NoPaper,⟨_,e_NoPaper,q_NoPaper⟩⟩,⟨_,PySem.W.mg_of X G e_NoPaper,⟨_,e_TooLong,q2_NoPaper⟩⟩,⟨_,PySem.W.mg_of X G e_NoTable,⟨_,e_NoPaper,q_NoTable⟩⟩,⟨_,PySem.W.mg_of X G e_NoTable,⟨_,e_TooLong,q2_NoTable⟩⟩,⟨_,PySem.W.mg_of X G e_NoText,⟨_,e_NoPaper,q_NoText⟩⟩,⟨_,PySem.W.mg_of X G e_NoText,⟨_,e_TooLong,q2_NoText⟩⟩,⟨_,PySem.W.mg_of X G e_NoWay,⟨_,e_NoPaper,q_NoWay⟩⟩,⟨_,PySem.W.mg_of X G e_NoWay,⟨_,e_TooLong,q2_NoWay⟩⟩,⟨_,PySem.W.mg_of X G e_TooLong,⟨_,e_NoPaper,q_TooLong⟩⟩,⟨_,PySem.W.mg_of X G e_TooLong,⟨_,e_TooLong,q2_TooLong⟩⟩,⟨_,e_NoPaper,q_ValueError⟩,⟨_,e_TooLong,q2_ValueError⟩,⟨_,_,e_NoPaper,XC,n_row⟩⟩
 have F_q41:=a1y (st:=V3) l_q41 c_q41 k_q41;have F_q34:=a1y (st:=V0) l_q34 c_q34 k_q34;have a2q:Binds K (PySem.W.fnOf "unrolled" "unrolled" (F7 V3) (A5 V3) (d9 V3) (.ref dT_q41) kV_q41 dc_q41 pm_q41 an_q41 cd_q41 ct_q41) ["chart","start","rows","k","most"] []:=fun s us KI hl=>by rw [List.append_nil] at hl ⊢;exact b9u (p:=fun us=>BindsTo s _ ⟨us,[]⟩ ((["chart","start","rows","k","most"]:List Str).zip us)) hl fun _ _ _ _ _=>.of_defaults rfl (KI _ _ dl_q41) ds_q41 rfl rfl
 refine ⟨PySem.W.fnOf "law" "law" (F7 V0) (A5 V0) (d9 V0) .none kV_q34 dc_q34 pm_q34 an_q34 cd_q34 ct_q34,fun s v=>.of_eq rfl,fun base _ _=>?_⟩;have F_i:=a1y (st:=p8) l_i c_i k_i;have b_i:Binds K (PySem.W.fnOf "__init__" "NoPaper.__init__" (F7 p8) (A5 p8) (d9 p8) .none kV_i dc_i pm_i an_i cd_i ct_i) ["self","row"] []:=.all fun us hl=>ln2 hl fun _ _=>rfl;have R_NoPaper:a3A l.prog w K mg base 1 "NoPaper" ["self","row"] ["row"]:=⟨_,_,_,PySem.W.mg_of X G e_NoPaper,e_NoPaper,XC,S8 F_i (PySem.W.mg_of X G e_CallError) ⟨rd_CallError,fc_CallError,sp_CallError⟩ XC n_row,b_i⟩
 have R_TooLong:a1H K mg "TooLong":=⟨_,PySem.W.mg_of X G e_TooLong,e_TooLong,X02⟩
 have C_q31:=g_q31.cal X G (fun F=>b3z (base:=base) F T ) fun _ hl=>ln1 hl fun _=>rfl;have C_q30:=g_q30.cal X G (fun F=>b5B (base:=base) F T ) fun _ hl=>ln2 hl fun _ _=>rfl;have C_q40:=g_q40.cal X G (fun F=>b6x (base:=base) F T ) fun _ hl=>ln2 hl fun _ _=>rfl;have C_q24:=g_q24.cal X G (fun F=>b6d (base:=base) F T ) fun _ hl=>ln3 hl fun _ _ _=>rfl;have C_q22:=g_q22.cal X G (fun F=>b5K (base:=base) F T ) fun _ hl=>ln2 hl fun _ _=>rfl;have C_q35:=g_q35.cal X G (fun F=>b5F (base:=base) F T ) fun _ hl=>ln1 hl fun _=>rfl;have C_q27:=g_q27.cal X G (fun F=>b6a (base:=base) F T ) fun _ hl=>ln2 hl fun _ _=>rfl;have C_q32:=g_q32.cal X G (fun F=>b4V (base:=base) F T ) fun _ hl=>ln2 hl fun _ _=>rfl;have C_q36:=g_q36.cal X G (fun F=>b4r (base:=base) F T ) fun _ hl=>ln2 hl fun _ _=>rfl;have C_q23:=g_q23.cal X G (fun F=>b4G (base:=base) F T C_q31) fun _ hl=>ln3 hl fun _ _ _=>rfl;have C_q39:=g_q39.cal X G (fun F=>b5Y (base:=base) F T C_q40) fun _ hl=>ln3 hl fun _ _ _=>rfl;have C_q21:=g_q21.cal X G (fun F=>b5G (base:=base) F T C_q24) fun _ hl=>ln2 hl fun _ _=>rfl;have C_q37:=g_q37.cal X G (fun F=>b3x (base:=base) F T C_q35) fun _ hl=>ln2 hl fun _ _=>rfl;have C_q29:=g_q29.cal X G (fun F=>b4d (base:=base) F T C_q23) fun _ hl=>ln3 hl fun _ _ _=>rfl;have C_q28:=g_q28.cal X G (fun F=>b6b (base:=base) F T C_q24 C_q35 C_q29) fun _ hl=>ln3 hl fun _ _ _=>rfl;have C_q38:=g_q38.cal X G (fun F=>b5O (base:=base) F T C_q24 C_q29 C_q30 C_q23) fun _ hl=>ln3 hl fun _ _ _=>rfl;have C_q33:=g_q33.cal X G (fun F=>b4Y (base:=base) F T C_q24 C_q35 C_q29) fun _ hl=>ln3 hl fun _ _ _=>rfl;have C_q25:=g_q25.cal X G (fun F=>b6t (base:=base) F T C_q22 C_q39 C_q38 C_q33 C_q21 C_q28) fun _ hl=>ln4 hl fun _ _ _ _=>rfl;have C_q26:=g_q26.cal X G (fun F=>b5w (base:=base) F T C_q25) fun _ hl=>ln3 hl fun _ _ _=>rfl;have O_q41:=a7G (base:=base) F_q41 T R_NoPaper R_TooLong C_q26 C_q37 C_q27 C_q36 C_q32;have C_unrolled__F1:a6q l.prog w K mg base 7 "unrolled" ["chart","start","rows","k","most"] (spX K 5 K1) [400]:=⟨a_q41,_,[.int 400 dk_unrolled_0],O_q41,PySem.W.mg_of X G e_q41,k_q41,fun s us KI hl=>b9y (p:=fun us=>BindsTo s _ ⟨us,[]⟩ ((["chart","start","rows","k","most"]:List Str).zip (us ++ [.int 400 dk_unrolled_0]))) (by simp at hl;omega) fun _ _ _ _=>.of_defaults rfl (KI _ _ dl_q41) ds_q41 rfl rfl,(.cons ⟨_,rfl⟩ .nil)⟩
 have C_q41:a7p l.prog w K mg base 7 "unrolled" ["chart","start","rows","k","most"] (spX K 5 K1):=⟨a_q41,_,a7G F_q41 T R_NoPaper R_TooLong C_q26 C_q37 C_q27 C_q36 C_q32,PySem.W.mg_of X G e_q41,k_q41,a2q⟩
 have C_q2:=g_q2.cal X G (fun F=>b8q (base:=base) F T ) fun _ hl=>ln2 hl fun _ _=>rfl;have C_q12:=g_q12.cal X G (fun F=>b5k (base:=base) F T ) fun _ hl=>ln2 hl fun _ _=>rfl;have C_q8:=g_q8.cal X G (fun F=>b6X (base:=base) F T ) fun _ hl=>ln1 hl fun _=>rfl;have C_q1:=g_q1.cal X G (fun F=>b8n (base:=base) F T ) fun _ hl=>ln3 hl fun _ _ _=>rfl;have C_q7:=g_q7.cal X G (fun F=>b6R (base:=base) F T ) fun _ hl=>ln5 hl fun _ _ _ _ _=>rfl;have C_q18:=g_q18.cal X G (fun F=>b4D (base:=base) F T C_q2) fun _ hl=>ln2 hl fun _ _=>rfl;have C_q19:=g_q19.cal X G (fun F=>b5p (base:=base) F T C_q12) fun _ hl=>ln3 hl fun _ _ _=>rfl;have C_q6:=g_q6.cal X G (fun F=>b8i (base:=base) F T C_q12 C_q19) fun _ hl=>ln3 hl fun _ _ _=>rfl;have C_q4:=g_q4.cal X G (fun F=>b8d (base:=base) F T C_q18 C_q12 C_q6) fun _ hl=>ln3 hl fun _ _ _=>rfl;have C_q17:=g_q17.cal X G (fun F=>b5y (base:=base) F T C_q7 C_q1) fun _ hl=>ln5 hl fun _ _ _ _ _=>rfl;have C_q13:=g_q13.cal X G (fun F=>b4A (base:=base) F T C_q7 C_q1) fun _ hl=>ln5 hl fun _ _ _ _ _=>rfl;have C_q9:=g_q9.cal X G (fun F=>b8f (base:=base) F T C_q8) fun _ hl=>ln4 hl fun _ _ _ _=>rfl;have C_q5:=g_q5.cal X G (fun F=>b6N (base:=base) F T C_q13 C_q17) fun _ hl=>ln4 hl fun _ _ _ _=>rfl;have C_q16:=g_q16.cal X G (fun F=>b3L (base:=base) F T C_q8 C_q9) fun _ hl=>ln3 hl fun _ _ _=>rfl;have C_q10:=g_q10.cal X G (fun F=>b5U (base:=base) F T ) fun _ hl=>ln1 hl fun _=>rfl;have C_q11:=g_q11.cal X G (fun F=>b3K (base:=base) F T C_q1 C_q7) fun _ hl=>ln4 hl fun _ _ _ _=>rfl;have C_q14:=g_q14.cal X G (fun F=>b3E (base:=base) F T C_q8 C_q18 C_q12 C_q16 C_q5) fun _ hl=>ln4 hl fun _ _ _ _=>rfl;have C_q20:=g_q20.cal X G (fun F=>b4q (base:=base) F T C_q11) fun _ hl=>ln5 hl fun _ _ _ _ _=>rfl;have C_q15:=g_q15.cal X G (fun F=>b3S (base:=base) F T C_q41) fun _ hl=>ln5 hl fun _ _ _ _ _=>rfl;have C_q0:=g_q0.cal X G (fun F=>b8H (base:=base) F T C_q15 C_unrolled__F1 C_q20 C_q41) fun _ hl=>ln6 hl fun _ _ _ _ _ _=>rfl;have C_q3:=g_q3.cal X G (fun F=>b8A (base:=base) F T C_q12 C_q0) fun _ hl=>ln1 hl fun _=>rfl;exact b5f F_q34 T C_q18 C_q12 C_q3 C_q4 C_q14 C_q10 C_q0
end K33
namespace PySem.W
open PySem PySem.Calls PyProof.Rows
section
def a3w(p:Program)(w:World)(n:Nat)(ann:Option Value):Nat->SharedT->Thread->Option SharedT
 |0,_,_=>none
 |m + 1,s,t=>match through t with
  |true=>some s
  |false=>match Fast.tw6613529449190102663 n ann t with
   |false=>none
   |true=>match Fast.tw10156331382660048174 (Fast.tw11892475500146522536 Fast.tw14364793385576792824) p w s t with
    |none=>none
    |some (s',t')=>a3w p w n ann m s' t'
 termination_by structural m=>m
theorem a4r{p:Program}{w:World}{n:Nat}{ann:Option Value}:∀ {m:Nat} {s s':SharedT} {t:Thread},a3w p w n ann m s t=some s'->topRun treeTable p w n ann m s.abs t=some s'.abs
 |0,_,_,_,h=>nomatch h
 |m + 1,s,s',t,h=>by
  unfold a3w at h;unfold topRun
  cases ht:through t with
  |true =>
   rw [ht] at h;exact congrArg (fun x=>some (SharedT.abs x)) (Option.some.inj h)
  |false =>
   rw [ht,<- Fast.te6613529449190102663,<- Fast.te10156331382660048174,<- Fast.te11892475500146522536,<- Fast.te14364793385576792824] at h
   cases ho:stepOk n ann t with
   |false=>rw [ho] at h;cases h
   |true =>
    rw [ho] at h
    cases hs:stepT (denote treeTable) p w s t with
    |none=>rw [hs] at h;cases h
    |some x =>
     obtain ⟨s₂,t₂⟩:=x;rw [hs] at h;show (match step (denote treeTable) p w s.abs t with | .go a b=>topRun treeTable p w n ann m a b | .halt _ _=>none)=_;rw [stepT_spec hs];exact a4r h
def b6Q(P:Params):BT :=
 .node (boot_o_0 P)
  (.node (boot_o_1 P) (.node (boot_o_3 P) (.node (boot_o_7 P) .nil .nil) .nil) (.node (boot_o_5 P) (.node (boot_o_9 P) .nil .nil) .nil))
  (.node (boot_o_2 P) (.node (boot_o_4 P) (.node (boot_o_8 P) .nil .nil) .nil) (.node (boot_o_6 P) (.node (boot_o_10 P) .nil .nil) .nil))
def a2B(P:Params)(os:OsState):SharedT:=⟨b6Q P,11,(boot_heap P).life,Array.mk [],boot_drawn,boot_toks,os⟩
theorem a5O(P:Params)(os:OsState):(a2B P os).abs=⟨boot_heap P,Array.mk [],boot_drawn,boot_toks,os⟩:=by kernel_rfl
theorem a5z(P:Params):((boot_heap P).isNs mainGlobals,(boot_heap P).objs.size,(boot_heap P).nsMap mainGlobals "__annotations__")=(true,11,some (.ref 6)):=by kernel_rfl
def HL{α:Type}(p q:Program)(loose:List Str)(Xt:Shared->Bool)(Yf:Shared->α)(Ya:World->α)(M:Nat)(w:World):Prop :=
 ∀ os:OsState,(a3w p w 11 (some (.ref 6)) M (a2B w.params os) (topStub p)).map (fun s =>
  ((staticsOk (Fast.tw5923862056798008813 p.main.body) (boot_heap w.params) s.abs.heap && namesBound p s.abs.heap && gensDone s.abs && laidKept (boot_heap w.params) s.abs.heap),
   Fast.tw4187177175401517315 q loose (Fast.tw5923862056798008813 p.main.body) Xt true s.abs,Yf s.abs))=some (true,openGood q loose,Ya w)
theorem b2d{p q:Program}{loose:List Str}{Xt:Shared->Bool}{α:Type}{Yf:Shared->α}{Ya:World->α}{N:Nat}
  (e:opening p=plainProg p.main.scope.names) (f:∀ s,fenceModules? p s=some s) (le:Nat.ble 600 N=true) (h:∀ w,HL p q loose Xt Yf Ya N w) :
  LeftO p q loose Xt Yf Ya N:=by
 intro w;obtain ⟨⟨hp,gs,d,k,os⟩,e1,e2⟩:=Option.map_eq_some_iff.mp (boot_open e le f w);obtain ⟨rfl,rfl,rfl,rfl⟩:hp=boot_heap w.params/\gs=Array.mk []/\d=boot_drawn/\k=boot_toks:=by simpa using e2
 obtain ⟨z1,z2,z3⟩:_/\_/\_:=by simpa only [Prod.mk.injEq] using a5z w.params
 obtain ⟨s,h1,h2⟩:=Option.map_eq_some_iff.mp (h w os);rw [<- Fast.te4187177175401517315,<- Fast.te5923862056798008813] at h2;obtain ⟨l1,l2,l3⟩:_/\_/\_:=by simpa only [Prod.mk.injEq] using h2
 have r:=a4r h1;rw [a5O] at r
 have t:topFrom treeTable p w N ⟨boot_heap w.params,Array.mk [],boot_drawn,boot_toks,os⟩=some s.abs:=by
  unfold topFrom;dsimp only;rw [z1,z2,z3,r];show (match staticsOk (importedModules p.main.body) (boot_heap w.params) s.abs.heap && namesBound p s.abs.heap && gensDone s.abs && laidKept (boot_heap w.params) s.abs.heap with | true=>_ | false=>_)=_;rw [l1]
 unfold openEnds;rw [e1];show (topFrom treeTable p w N _).map _=_;rw [t];exact congrArg some (Prod.ext l2 l3)
theorem a5k{r:OpenRow}{q:Program}{loose:List Str}{Xt:Shared->Bool}{XP:(Str->Option Value)->Heap->Prop}{α:Type}{Yf:Shared->α}{Ya:World->α}{YP:World->Heap->Prop}{d:DefRec}{kwd:List (Str×Expr)}{N:Nat}
  (hY:∀ w s,Yf s=Ya w->YP w s.heap) (hYk:∀ w h h',YP w h->(∀ b o,h.get? b=some o->h'.get? b=some o)->YP w h')
  (hX:∀ s,Xt s=true->XP (s.heap.nsMap mainGlobals) s.heap) (hXk:∀ mg h h',XP mg h->(∀ b o,h.get? b=some o->h'.get? b=some o)->XP mg h')
  (hdef:defOf q r.name=some (d,kwd)) (hp:r.prog.theDef r.name=some (d.params,d.body,d.scope)) (hk:kwWritten? d.params.kwonlyargs d.params.kw_defaults=some kwd)
  (hRf:∀ s,Xt s=true->RecFacts r.records s.heap) (hwr:(!r.writes || r.records.isEmpty)=true)
  (k1:r.wellSaid=true) (ok:(chainsOk q && opensWell r.prog && (frees r.toRowW && r.within.isEmpty))=true) (hb:r.prog.bare)
  (e:opening r.prog=plainProg r.prog.main.scope.names) (f:∀ s,fenceModules? r.prog s=some s) (le:Nat.ble 600 N=true)
  (hw:r.toRowW.promised) (x:(∀ w,HL r.prog q loose Xt Yf Ya N w)/\WalkO q loose XP YP r.toRowW d kwd fun f vs=>PySem.call f vs):r.Holds :=
 holds_open (b2d e f le x.1) hY hYk hX hXk hdef hp hk hRf hwr k1 ok hb hw x.2
def sideP{P:World->Prop}{B C:Prop}(_:(∀ w,P w)/\B->C):World->Prop:=P
section
variable {α:Type} {p q:Program} {loose:List Str} {Xt:Shared->Bool} {Yf:Shared->α} {Ya:World->α} {M:Nat}
def b7a{B C:Prop}(_:(∀ w,HL p q loose Xt Yf Ya M w)/\B->C)(w:World):Prop:=∀ os:OsState,(a3w p w 11 (some (.ref 6)) M (a2B w.params os) (topStub p)).map (fun s=>staticsOk (Fast.tw5923862056798008813 p.main.body) (boot_heap w.params) s.abs.heap && namesBound p s.abs.heap && gensDone s.abs && laidKept (boot_heap w.params) s.abs.heap)=some true
def b7x{B C:Prop}(_:(∀ w,HL p q loose Xt Yf Ya M w)/\B->C)(w:World):Prop:=∀ os:OsState,(a3w p w 11 (some (.ref 6)) M (a2B w.params os) (topStub p)).map (fun s=>Fast.tw4187177175401517315 q loose (Fast.tw5923862056798008813 p.main.body) Xt true s.abs)=some (openGood q loose)
def b7U{B C:Prop}(_:(∀ w,HL p q loose Xt Yf Ya M w)/\B->C)(w:World):Prop:=∀ os:OsState,(a3w p w 11 (some (.ref 6)) M (a2B w.params os) (topStub p)).map (fun s=>Yf s.abs)=some (Ya w)
theorem parts{B C:Prop}{o:(∀ w,HL p q loose Xt Yf Ya M w)/\B->C}{w:World}(a:b7a o w)(b:b7x o w)(c:b7U o w):HL p q loose Xt Yf Ya M w:=fun os=>by
 obtain ⟨s,h1,h2⟩:=Option.map_eq_some_iff.mp (a os);obtain ⟨s2,k1,k2⟩:=Option.map_eq_some_iff.mp (b os);obtain ⟨s3,l1,l2⟩:=Option.map_eq_some_iff.mp (c os);rw [h1] at k1 l1
 cases k1;cases l1;rw [h1];exact congrArg some (Prod.ext h2 (Prod.ext k2 l2))
end
end
end PySem.W
namespace K33
def qv:PySem.Program:=PySem.W.view PySem.Challenge.pw_callmatch_k33_whole_unrolled [1,2,3,4,5,6,7,8,10,11,13,14,15,16,18,19,20,21,22,23,24,25,26,27,30,31,32,33,35,36,37,38,39,40,41,42,43,44,45,46,47,48,49,50,51,52,53,54,55,56]
open PySem.W in
local macro_rules
 |`(tactic| o_head $H)=>`(tactic|
   refine a5k (q:=qv) (loose:= ["MOVE_TABLES","unrolled"])
     (Xt:=fun s=>xlAt qv [] s && recOk (RowW.records (OpenRow.toRowW (OpenLaw.row PySem.Challenge.rw_callmatch_k33_whole_unrolled))) s)
     (XP:=XL qv []) (Yf:=Hook.obs $H) (Ya:=Hook.val $H)
     (YP:=Hook.says $H) (N:=20000) (Hook.of $H) (Hook.keeps $H)
     (fun s e=>xl_of s (Bool.and_eq_true_iff.mp e).1) XL.keeps (by rfl) (by rfl) (by rfl)
     (fun s e=>recFacts_of (Bool.and_eq_true_iff.mp e).2) (by rfl) (by assumption)
     (by decide +kernel) ⟨rfl,rfl,rfl,rfl,rfl,by decide +kernel⟩ (by kernel_rfl) (fun _=>by kernel_rfl) (by decide) ?hw ?hc)
open_top opened for PySem.Challenge.rw_callmatch_k33_whole_unrolled
set_option maxHeartbeats 0 in
theorem side_false(w:PySem.World):PySem.W.sideP opened (w.withFollow "special-get-raises" false):=by
 intro os
 kernel_rfl
set_option maxHeartbeats 0 in
theorem side_true(w:PySem.World):PySem.W.sideP opened (w.withFollow "special-get-raises" true):=by
 intro os
 kernel_rfl
end K33
open PySem PySem.W PyProof.Rows
local macro_rules | `(tactic| right) => `(tactic| (refine' K33.gt_mk ?e ?l ?c ?k; (case e => k_is); (case l => k_is); (case c => k_is); (case k => k_is)))
set_option maxRecDepth 100000 in
set_option maxHeartbeats 0 in
theorem PySem.Challenge.cw_callmatch_k33_whole_unrolled_holds : PySem.Challenge.rw_callmatch_k33_whole_unrolled.Holds := by
  refine K33.opened ⟨PySem.W.byRow2 (P := PySem.W.sideP K33.opened) "special-get-raises" K33.side_false K33.side_true, ?_⟩
  k_fill
  refine DL.walkD (l := PySem.Challenge.rw_callmatch_k33_whole_unrolled) (n := 63) (k := 11) (S := K33.S_q34) (x := "_law_script") rfl (by decide) rfl ⟨rfl, by decide, by decide⟩ (fun w h Y => PySem.W.kIn_of Y) ?F K33.law_true
  case F =>
    intro w mg fa h KX G hmg
    refine' K33.all_mk KX G hmg ?g_q31 ?g_q23 ?g_q30 ?g_q40 ?g_q29 ?g_q26 ?g_q25 ?g_q24 ?g_q22 ?g_q39 ?g_q28 ?g_q38 ?g_q33 ?g_q21 ?g_q35 ?e_q41 ?l_q41 ?c_q41 ?k_q41 ?dl_q41 ?ds_q41 ?g_q37 ?g_q27 ?g_q32 ?g_q36 ?g_q2 ?g_q18 ?g_q12 ?g_q8 ?g_q19 ?g_q6 ?g_q4 ?g_q1 ?g_q7 ?g_q17 ?g_q13 ?g_q5 ?g_q9 ?g_q16 ?g_q14 ?g_q10 ?g_q11 ?g_q20 ?g_q15 ?g_q0 ?g_q3 ?e_q34 ?l_q34 ?c_q34 ?k_q34 ?z_ValueError ?z_abs ?z_bool ?z_enumerate ?z_int ?z_isinstance ?z_len ?z_list ?z_max ?z_min ?z_range ?z_reversed ?z_tuple ?y_MOVE_TABLES ?d_MOVE_TABLES ?e_NoPaper ?e_CallError ?e_NoChart ?e_NoName ?e_NoTable ?e_NoText ?e_NoWay ?e_TooLong ?l_NoPaper ?t_NoPaper ?o_NoPaper ?i_NoPaper ?l_i ?c_i ?k_i ?sa_NoPaper ?ga_NoPaper ?gg_NoPaper ?cl_NoPaper ?cg_NoPaper ?ct_NoPaper ?mo_NoPaper ?n_row ?rd_CallError ?fc_CallError ?sp_CallError ?l_TooLong ?t_TooLong ?o_TooLong ?i_TooLong ?ga_TooLong ?gg_TooLong ?cl_TooLong ?cg_TooLong ?ct_TooLong ?mo_TooLong ?m_CallError ?m2_CallError ?q_NoChart ?q2_NoChart ?q_NoName ?q2_NoName ?q_NoPaper ?q2_NoPaper ?q_NoTable ?q2_NoTable ?q_NoText ?q2_NoText ?q_NoWay ?q2_NoWay ?q_TooLong ?q2_TooLong ?q_ValueError ?q2_ValueError
    (case g_q31 => right)
    (case g_q23 => right)
    (case g_q30 => right)
    (case g_q40 => right)
    (case g_q29 => right)
    (case g_q26 => right)
    (case g_q25 => right)
    (case g_q24 => right)
    (case g_q22 => right)
    (case g_q39 => right)
    (case g_q28 => right)
    (case g_q38 => right)
    (case g_q33 => right)
    (case g_q21 => right)
    (case g_q35 => right)
    (case e_q41 => k_is)
    (case l_q41 => k_is)
    (case c_q41 => k_is)
    (case k_q41 => k_is)
    (case dl_q41 => k_is)
    (case ds_q41 => exact rfl)
    (case g_q37 => right)
    (case g_q27 => right)
    (case g_q32 => right)
    (case g_q36 => right)
    (case g_q2 => right)
    (case g_q18 => right)
    (case g_q12 => right)
    (case g_q8 => right)
    (case g_q19 => right)
    (case g_q6 => right)
    (case g_q4 => right)
    (case g_q1 => right)
    (case g_q7 => right)
    (case g_q17 => right)
    (case g_q13 => right)
    (case g_q5 => right)
    (case g_q9 => right)
    (case g_q16 => right)
    (case g_q14 => right)
    (case g_q10 => right)
    (case g_q11 => right)
    (case g_q20 => right)
    (case g_q15 => right)
    (case g_q0 => right)
    (case g_q3 => right)
    (case e_q34 => k_is)
    (case l_q34 => k_is)
    (case c_q34 => k_is)
    (case k_q34 => k_is)
    (case z_ValueError => k_is)
    (case z_abs => k_is)
    (case z_bool => k_is)
    (case z_enumerate => k_is)
    (case z_int => k_is)
    (case z_isinstance => k_is)
    (case z_len => k_is)
    (case z_list => k_is)
    (case z_max => k_is)
    (case z_min => k_is)
    (case z_range => k_is)
    (case z_reversed => k_is)
    (case z_tuple => k_is)
    (case y_MOVE_TABLES => k_is)
    (case d_MOVE_TABLES => k_is)
    (case e_NoPaper => k_is)
    (case e_CallError => k_is)
    (case e_NoChart => k_is)
    (case e_NoName => k_is)
    (case e_NoTable => k_is)
    (case e_NoText => k_is)
    (case e_NoWay => k_is)
    (case e_TooLong => k_is)
    (case l_NoPaper => k_is)
    (case t_NoPaper => kernel_rfl)
    (case o_NoPaper => kernel_rfl)
    (case i_NoPaper => k_is)
    (case l_i => k_is)
    (case c_i => k_is)
    (case k_i => k_is)
    (case sa_NoPaper => k_is)
    (case ga_NoPaper => k_is)
    (case gg_NoPaper => k_is)
    (case cl_NoPaper => k_is)
    (case cg_NoPaper => k_is)
    (case ct_NoPaper => k_is)
    (case mo_NoPaper => k_is)
    (case n_row => k_is)
    (case rd_CallError => k_is)
    (case fc_CallError => k_is)
    (case sp_CallError => k_is)
    (case l_TooLong => k_is)
    (case t_TooLong => kernel_rfl)
    (case o_TooLong => kernel_rfl)
    (case i_TooLong => k_is)
    (case ga_TooLong => k_is)
    (case gg_TooLong => k_is)
    (case cl_TooLong => k_is)
    (case cg_TooLong => k_is)
    (case ct_TooLong => k_is)
    (case mo_TooLong => k_is)
    (case m_CallError => kernel_rfl)
    (case m2_CallError => kernel_rfl)
    (case q_NoChart => kernel_rfl)
    (case q2_NoChart => kernel_rfl)
    (case q_NoName => kernel_rfl)
    (case q2_NoName => kernel_rfl)
    (case q_NoPaper => kernel_rfl)
    (case q2_NoPaper => kernel_rfl)
    (case q_NoTable => kernel_rfl)
    (case q2_NoTable => kernel_rfl)
    (case q_NoText => kernel_rfl)
    (case q2_NoText => kernel_rfl)
    (case q_NoWay => kernel_rfl)
    (case q2_NoWay => kernel_rfl)
    (case q_TooLong => kernel_rfl)
    (case q2_TooLong => kernel_rfl)
    (case q_ValueError => kernel_rfl)
    (case q2_ValueError => kernel_rfl)
#print axioms PySem.Challenge.cw_callmatch_k33_whole_unrolled_holds
