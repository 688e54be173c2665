import PyProof.Rows.All
import Wide.All
import OpenK.AllK
import Wide.FinOn
import Lean
import PyProof.EqAt
import PyProof.EqKinds
import PyProof.TupleCall
import PyProof.EqLayable
import PyProof.P3In
import PyProof.Draws
import PyProof.EnumMake
import PyProof.CompFree
import PyProof.CompUse
import KE.KRevIter
import PyProof.DictIter
import PyProof.ZipIter
import PyProof.ListMulRoad
import PyProof.ConsumeWalk
import PyProof.DictItems
import KE.KDictList
import PyProof.DictCalls
import PyProof.DictCopy
import PyProof.DictList
import PyProof.DictUpdate
import PyProof.DictRoads
import PyProof.DictRoadsH
import PyProof.TupleKey
import KE.KSortTup
import KE.KSortAsk
import PyProof.DictKinds
import PySem.Challenge.RW_callmatch_k35_shut
set_option Elab.async false
set_option linter.all false
set_option maxRecDepth 100000
set_option genSizeOfSpec false
set_option compiler.extract_closed false
set_option maxHeartbeats 4000000
local macro_rules | `(tactic| trivial) => `(tactic| first | exact .inl rfl | exact .inr (.inl rfl) | exact .inr (.inr rfl) | exact .inr rfl | assumption)
namespace L2
open PySem PySem.Spec PyProof.Rows
noncomputable abbrev Key:=Sum Int Str
noncomputable def keyIs:Key→Value→Bool
 |.inl k,v=>Value.isInt k v
 |.inr x,v=>Value.isStrOf x v
noncomputable def keyH(w:World):Key→Int
 |.inl k=>hashInt k
 |.inr x=>hashStr w x
theorem keyIs_shape:∀ {k:Key} {v:Value},keyIs k v=true→(∃ i t,k=Sum.inl i∧v=Value.int i t)∨(∃ x t,k=Sum.inr x∧v=Value.str x t)
 |.inl i,v,h=>by
  obtain ⟨t,e⟩:=Value.isInt_shape (k:=i) (v:=v) h
  exact .inl ⟨i,t,rfl,e⟩
 |.inr x,v,h=>by
  obtain ⟨t,e⟩:=Value.isStrOf_shape (x:=x) (v:=v) h
  exact .inr ⟨x,t,rfl,e⟩
theorem keyIs_int(i:Int)(t:Tok):keyIs (.inl i) (.int i t)=true:=by simp [keyIs,Value.isInt]
theorem keyIs_str(x:Str)(t:Tok):keyIs (.inr x) (.str x t)=true:=by simp [keyIs,Value.isStrOf]
theorem key_ll(a b:Int):decide ((Sum.inl a:Key)=Sum.inl b)=(a == b):=by
 by_cases e:a=b
 ·subst e;simp
 ·have h:¬ (Sum.inl a:Key)=Sum.inl b:=fun q=>e (Sum.inl.inj q)
  rw [decide_eq_false h]
  exact (beq_eq_false_iff_ne.mpr e).symm
theorem key_rr(a b:Str):decide ((Sum.inr a:Key)=Sum.inr b)=decide (a=b):=by
 by_cases e:a=b
 ·subst e;simp
 ·have h:¬ (Sum.inr a:Key)=Sum.inr b:=fun q=>e (Sum.inr.inj q)
  rw [decide_eq_false h,decide_eq_false e]
theorem key_lr(a:Int)(b:Str):decide ((Sum.inl a:Key)=Sum.inr b)=false:=decide_eq_false (fun q=>nomatch q)
theorem key_rl(a:Str)(b:Int):decide ((Sum.inr a:Key)=Sum.inl b)=false:=decide_eq_false (fun q=>nomatch q)
noncomputable def mixKind(prog:Program)(w:World):PySem.KeyKind prog w Key where
 is:=keyIs
 hash:=keyH w
 inj:=fun v a b ha hb=>by
  rcases keyIs_shape ha with ⟨i,t,rfl,rfl⟩ | ⟨x,t,rfl,rfl⟩
  ·rcases keyIs_shape hb with ⟨j,u,rfl,e⟩ | ⟨y,u,rfl,e⟩
   ·injection e with e1 _;rw [e1]
   ·exact nomatch e
  ·rcases keyIs_shape hb with ⟨j,u,rfl,e⟩ | ⟨y,u,rfl,e⟩
   ·exact nomatch e
   ·injection e with e1 _;rw [e1]
 byValue:=fun k v h=>by
  rcases keyIs_shape h with ⟨i,t,rfl,rfl⟩ | ⟨x,t,rfl,rfl⟩ <;> rfl
 pyHash:=fun hv h=>by
  rcases keyIs_shape hv with ⟨i,t,rfl,rfl⟩ | ⟨x,t,rfl,rfl⟩
  ·exact wpAny_pyHash_int h
  ·exact wpAny_pyHash_str h
 eqBool:=fun hu hv h=>by
  rcases keyIs_shape hu with ⟨i,t,rfl,rfl⟩ | ⟨x,t,rfl,rfl⟩
  ·rcases keyIs_shape hv with ⟨j,u,rfl,rfl⟩ | ⟨y,u,rfl,rfl⟩
   ·rw [key_ll] at h;exact wpAny_eqBool_int h
   ·rw [key_lr] at h;exact SeqAt.EqAt.int_str i t y u _ _ _ _ h
  ·rcases keyIs_shape hv with ⟨j,u,rfl,rfl⟩ | ⟨y,u,rfl,rfl⟩
   ·rw [key_rl] at h;exact SeqAt.EqAt.str_int x t j u _ _ _ _ h
   ·rw [key_rr] at h;exact wpAny_eqBool_str h
 «strs»:=fun k x t v h=>by
  rcases keyIs_shape h with ⟨i,u,rfl,e⟩ | ⟨y,u,rfl,e⟩
  ·exact nomatch e
  ·injection e with e1 _
   subst e1
   cases v <;> rfl
theorem mixKind_int(prog:Program)(w:World)(i:Int)(t:Tok):(mixKind prog w).is (.inl i) (.int i t)=true:=keyIs_int i t
theorem mixKind_str(prog:Program)(w:World)(x:Str)(t:Tok):(mixKind prog w).is (.inr x) (.str x t)=true:=keyIs_str x t
end L2
namespace L2
open PySem PySem.Spec PyProof.Rows
inductive V where
 |non | bl (b:Bool) | int (i:Int) | str (x:Str) | byt (b:Array UInt8) | flt (b:UInt64) | ref (a:Addr) | ty (n:String)
 deriving DecidableEq
noncomputable def RelV:V→Value→Prop
 |.non,u=>u=Value.none
 |.bl b,u=>u=Value.bool b
 |.int i,u=>∃ t,u=Value.int i t
 |.str x,u=>∃ t,u=Value.str x t
 |.byt b,u=>∃ t,u=Value.bytes b t
 |.flt b,u=>∃ t,u=Value.float b t
 |.ref a,u=>u=Value.ref a
 |.ty n,u=>u=Value.type n
noncomputable abbrev Vals:List V→List Value→Prop:=Paired RelV
theorem Vals.length{xs:List V}{us:List Value}(r:Vals xs us):xs.length=us.length:=Paired.length r
theorem Vals.get:∀ {xs:List V} {us:List Value} {i:Nat} {x:V},Vals xs us→xs[i]?=some x→∃ u,us[i]?=some u∧RelV x u
 |_,_,_,_,.nil,e=>by simp at e
 |_,_,0,_,.cons r _,e=>by simp at e;subst e;exact ⟨_,rfl,r⟩
 |_,_,i + 1,x,.cons _ t,e=>by
  obtain ⟨u,h1,h2⟩:=Vals.get (i:=i) (x:=x) t (by simpa using e)
  exact ⟨u,by simpa using h1,h2⟩
theorem Vals.set{x:V}{u:Value}(r:RelV x u):∀ {xs:List V} {us:List Value} (i:Nat),Vals xs us→Vals (xs.set i x) (us.set i u)
 |_,_,_,.nil=>.nil
 |_,_,0,.cons _ t=>.cons r t
 |_,_,i + 1,.cons q t=>.cons q (Vals.set r i t)
theorem Vals.append:∀ {xs ys:List V} {us ws:List Value},Vals xs us→Vals ys ws→Vals (xs ++ ys) (us ++ ws)
 |_,_,_,_,.nil,s=>s
 |_,_,_,_,.cons r t,s=>.cons r (Vals.append t s)
theorem Vals.take:∀ {xs:List V} {us:List Value} (n:Nat),Vals xs us→Vals (xs.take n) (us.take n)
 |_,_,0,_=>.nil
 |_,_,_ + 1,.nil=>.nil
 |_,_,n + 1,.cons r t=>.cons r (Vals.take n t)
theorem Vals.drop:∀ {xs:List V} {us:List Value} (n:Nat),Vals xs us→Vals (xs.drop n) (us.drop n)
 |_,_,0,r=>r
 |_,_,_ + 1,.nil=>.nil
 |_,_,n + 1,.cons _ t=>Vals.drop n t
noncomputable def RelO:Option V→Option Value→Prop
 |some v,some u=>RelV v u
 |none,none=>True
 |_,_=>False
noncomputable def KV{κ:Type}:List (κ×V)→List (κ×Value)→Prop:=Paired fun (p:κ×V) (q:κ×Value)=>p.1=q.1∧RelV p.2 q.2
noncomputable def kV:Key→V
 |.inl i=>.int i
 |.inr x=>.str x
inductive HO where
 |lst (xs:List V)
 |tup (xs:List V)
 |dK (kvs:List (Key×V)) | dT (kvs:List (List Key×V))
 |set (S:Int→Bool) (n:Nat)
 |ins (C dx:Addr) (fs:List (Str×V))
 |own (x:Addr)
 |xd (fs:List (Str×V))
 |met (f x:Addr)
 |rng (lo hi:Int)
 |frz (o:Obj) (u:HO)
 |tbl (ps:Array Value)
 |ext (φ:Heap→Prop)
noncomputable abbrev Hp:=Addr→Option HO
noncomputable def upd(H:Hp)(a:Addr)(o:HO):Hp:=fun b=>if b=a then some o else H b
theorem upd_same{H:Hp}{a:Addr}{o:HO}:upd H a o a=some o:=by unfold upd;rw [if_pos rfl]
theorem upd_ne{H:Hp}{a b:Addr}{o:HO}(h:b ≠ a):upd H a o b=H b:=by unfold upd;rw [if_neg h]
theorem ne_of{H:Hp}{a b:Addr}{o u:HO}(h:H a=some o)(h':H b=some u)(d:o ≠ u):a ≠ b:=by
 intro e;subst e;rw [h] at h';exact d (Option.some.inj h')
theorem ne_of_none{H:Hp}{a b:Addr}{o:HO}(h:H a=some o)(h':H b=none):a ≠ b:=by
 intro e;subst e;rw [h] at h';cases h'
section
variable (P:Program) (w:World)
noncomputable def ObjOk(H:Hp)(h:Heap)(a:Addr):HO→Prop
 |.lst xs=>xs.length ≤ sizeLine∧∃ (its:List Value) (n:Nat),Vals xs its∧h.get? a=some { cls:=.type "list",data:=.seq its.toArray n }
 |.tup xs=>xs.length ≤ sizeLine∧∃ its:List Value,Vals xs its∧IsTup h a its.toArray
 |.dK kvs=>kvs.length ≤ sizeLine∧(a == sysModules)=false∧∃ vs,KV kvs vs∧h.DictOf (mixKind P w) a vs
 |.dT kvs=>kvs.length ≤ sizeLine∧(a == sysModules)=false∧∃ xs:List (List Key×Addr×Value),
   Paired (fun (p:List Key×V) (q:List Key×Addr×Value)=>p.1=q.1∧H q.2.1=some (.tup (p.1.map kV))∧RelV p.2 q.2.2) kvs xs ∧
   ∃ o es ep,h.get? a=some o∧o.ExactDict∧o.data = .dict es ep∧es.toList=xs.map (entryOfKey (tupleKind (mixKind P w)))∧(xs.map (·.1)).Nodup
 |.set S n=>h.SetOf (intKind P w) a S n
 |.ins C dx fs=>H dx=some (.own a)∧fs.length ≤ 1000∧dx ≠ a∧h.get? a=some (PySem.W.instObj C dx) ∧
   ∃ mA,h.Ns1 dx mA∧(∀ f,RelO (fs.lookup f) (mA f))∧PySem.Within mA (fs.map (·.1))
 |.own _=>∃ o,h.get? a=some o
 |.xd fs=>∃ mA,h.Ns1 a mA∧∀ f,RelO (fs.lookup f) (mA f)
 |.rng lo hi=>∃ t u v,h.get? a=some { cls:=.type "range",data:=.fields #[.int lo t,.int hi u,.int 1 v] }
 |.frz o u=>h.get? a=some o∧ObjOk H h a u
 |.tbl ps=>h.get? a=some { cls:=.none,data:=.fields ps }
 |.met f x=>h.get? a=some (PySem.W.methodObj (.ref f) (.ref x))
 |.ext φ=>φ h∧(∃ o,h.get? a=some o)∧∀ h1 h2:Heap,φ h1→(∀ o,h1.get? a=some o→h2.get? a=some o)→φ h2
noncomputable def HOk(H:Hp)(h:Heap):Prop:=∀ a o,H a=some o→ObjOk P w H h a o
end
section
variable {P:Program} {w:World} {H H':Hp} {h h':Heap} {a:Addr} {o:HO}
theorem ObjOk.lt(x:ObjOk P w H h a o):a < h.objs.size:=by
 cases o with
 |lst xs=>obtain ⟨_,_,_,_,e⟩:=x;exact Heap.lt_size e
 |tup xs=>obtain ⟨_,_,_,p⟩:=x;exact p.lt
 |dK kvs=>obtain ⟨_,_,_,_,o,_,_,e,_⟩:=x;exact Heap.lt_size e
 |dT kvs=>obtain ⟨_,_,_,_,o,_,_,e,_⟩:=x;exact Heap.lt_size e
 |set S n=>obtain ⟨o,_,_,_,e,_⟩:=x;exact Heap.lt_size e
 |ins C dx fs=>obtain ⟨_,_,_,e,_⟩:=x;exact Heap.lt_size e
 |own y=>obtain ⟨_,e⟩:=x;exact Heap.lt_size e
 |xd fs=>obtain ⟨_,⟨_,_,_,e,_⟩,_⟩:=x;exact Heap.lt_size e
 |rng lo hi=>obtain ⟨_,_,_,e⟩:=x;exact Heap.lt_size e
 |frz ob u=>obtain ⟨e,_⟩:=x;exact Heap.lt_size e
 |tbl ps=>exact Heap.lt_size (show h.get? a=some _ from x)
 |met f y=>exact Heap.lt_size (show h.get? a=some _ from x)
 |ext φ=>obtain ⟨_,⟨_,e⟩,_⟩:=x;exact Heap.lt_size e
theorem Paired.mapP{α β:Type}{F G:α→β→Prop}{l₁:List α}{l₂:List β}(h:Paired F l₁ l₂)(f:∀ a b,F a b→G a b):Paired G l₁ l₂:=by
 induction h with
 |nil=>exact .nil
 |cons r _ ih=>exact .cons (f _ _ r) ih
theorem ObjOk.stay(x:ObjOk P w H h a o)(k:∀ b u,(b=a∨H b=some (.own a))→h.get? b=some u→h'.get? b=some u)
  (ho:∀ b,H b=some (.own a)→H' b=some (.own a)) (ht:∀ b xs,H b=some (.tup xs)→H' b=some (.tup xs)):ObjOk P w H' h' a o:=by
 induction o with
 |lst xs=>obtain ⟨z,its,n,r,e⟩:=x;exact ⟨z,its,n,r,k _ _ (.inl rfl) e⟩
 |tup xs=>obtain ⟨z,its,r,ob,e,c⟩:=x;exact ⟨z,its,r,ob,k _ _ (.inl rfl) e,c⟩
 |dK kvs=>obtain ⟨z,y,vs,r,ob,es,ep,e,c⟩:=x;exact ⟨z,y,vs,r,ob,es,ep,k _ _ (.inl rfl) e,c⟩
 |dT kvs =>
  obtain ⟨z,y,xs,r,ob,es,ep,e,c⟩:=x
  exact ⟨z,y,xs,Paired.mapP r fun p q z=>⟨z.1,ht _ _ z.2.1,z.2.2⟩,ob,es,ep,k _ _ (.inl rfl) e,c⟩
 |set S n=>obtain ⟨ob,es,ep,t,e,c⟩:=x;exact ⟨ob,es,ep,t,k _ _ (.inl rfl) e,c⟩
 |ins C dx fs =>
  obtain ⟨d,z,ne,e,mA,⟨od,es,ep,e2,c⟩,r⟩:=x
  exact ⟨ho _ d,z,ne,k _ _ (.inl rfl) e,mA,⟨od,es,ep,k _ _ (.inr d) e2,c⟩,r⟩
 |own y=>obtain ⟨ob,e⟩:=x;exact ⟨ob,k _ _ (.inl rfl) e⟩
 |xd fs=>obtain ⟨mA,⟨od,es,ep,e,c⟩,r⟩:=x;exact ⟨mA,⟨od,es,ep,k _ _ (.inl rfl) e,c⟩,r⟩
 |rng lo hi=>obtain ⟨t,u,v,e⟩:=x;exact ⟨t,u,v,k _ _ (.inl rfl) e⟩
 |frz ob u ih=>obtain ⟨e,q⟩:=x;exact ⟨k _ _ (.inl rfl) e,ih q⟩
 |tbl ps =>
  have e:h.get? a=some { cls:=.none,data:=.fields ps }:=x
  show h'.get? a=some { cls:=.none,data:=.fields ps }
  exact k a _ (.inl rfl) e
 |met f y =>
  have e:h.get? a=some (PySem.W.methodObj (.ref f) (.ref y)):=x
  show h'.get? a=some (PySem.W.methodObj (.ref f) (.ref y))
  exact k a _ (.inl rfl) e
 |ext φ=>obtain ⟨p,⟨o,e⟩,st⟩:=x;exact ⟨st _ _ p fun o q=>k _ _ (.inl rfl) q,⟨o,k _ _ (.inl rfl) e⟩,st⟩
theorem HOk.lt(x:HOk P w H h)(e:H a=some o):a < h.objs.size:=(x a o e).lt
theorem HOk.fresh(x:HOk P w H h)(e:h.objs.size ≤ a):H a=none:=by
 cases q:H a with
 |none=>rfl
 |some u=>exact absurd (Nat.lt_of_lt_of_le (x.lt q) e) (Nat.lt_irrefl _)
theorem HOk.kept(x:HOk P w H h)(k:∀ b u,h.get? b=some u→h'.get? b=some u):HOk P w H h':=fun a o e =>
 (x a o e).stay (fun b u _ q=>k b u q) (fun _ q=>q) fun _ _ q=>q
theorem HOk.laid(x:HOk P w H h)(k:∀ b u,h.get? b=some u→h'.get? b=some u)(hp:h.objs.size ≤ a)(new:ObjOk P w (upd H a o) h' a o):HOk P w (upd H a o) h':=fun b u e=>by
 have hn:=x.fresh hp
 by_cases hb:b=a
 ·subst hb;rw [upd_same] at e;cases e;exact new
 ·rw [upd_ne hb] at e
  exact (x b u e).stay (fun c v _ q=>k c v q) (fun c q=>by rw [upd_ne (ne_of_none q hn)];exact q) fun c xs q=>by rw [upd_ne (ne_of_none q hn)];exact q
end
noncomputable def Rd(H:Hp)(a:Addr)(u:HO):Prop:=H a=some u∨∃ o,H a=some (.frz o u)
theorem Rd.ok{P:Program}{w:World}{H:Hp}{h:Heap}{a:Addr}{u:HO}(r:Rd H a u)(x:HOk P w H h):ObjOk P w H h a u:=by
 rcases r with r | ⟨o,r⟩
 ·exact x a u r
 ·obtain ⟨_,q⟩:=x a _ r
  exact q
noncomputable def Mut:Option HO→Prop
 |some (.lst _)=>True
 |some (.dK _)=>True
 |some (.dT _)=>True
 |some (.set _ _)=>True
 |some (.ins _ _ _)=>True
 |some (.ext _)=>True
 |_=>False
section
variable {P:Program} {w:World} {H:Hp} {h h':Heap} {x e:Addr} {o':HO}
theorem HOk.write(ok:HOk P w H h)(mu:Mut (H x))(he:e=x∨H e=some (.own x))(k:∀ b u,b ≠ e→h.get? b=some u→h'.get? b=some u)(heo:∃ u,h'.get? e=some u)
  (new:ObjOk P w (upd H x o') h' x o'):HOk P w (upd H x o') h':=fun b u q=>by
 have nown:∀ c y,H c=some (.own y)→c ≠ x:=fun c y r z=>by subst z;rw [r] at mu;exact mu
 have ntup:∀ c xs,H c=some (.tup xs)→c ≠ x:=fun c xs r z=>by subst z;rw [r] at mu;exact mu
 by_cases hb:b=x
 ·subst hb;rw [upd_same] at q;cases q;exact new
 ·rw [upd_ne hb] at q
  by_cases hbe:b=e
  ·have q':H b=some (.own x):=by
    rcases he with z | z
    ·exact absurd (hbe.trans z) hb
    ·rw [hbe];exact z
   rw [q] at q';cases q'
   obtain ⟨v,hv⟩:=heo
   exact ⟨v,by rw [hbe];exact hv⟩
  ·refine (ok b u q).stay (fun c v hc r=>k c v ?_ r) (fun c r=>by rw [upd_ne (nown c b r)];exact r) fun c xs r=>by rw [upd_ne (ntup c xs r)];exact r
   rcases hc with rfl | hc
   ·exact hbe
   ·rintro rfl
    rcases he with z | z
    ·exact nown c b hc z
    ·rw [hc] at z;cases z;exact hb rfl
end
structure Un(fs ex:List Addr)(H H':Hp)(h h':Heap):Prop where
 keep:∀ b o,h.get? b=some o→H b=none→b ∉ fs→b ∉ ex→h'.get? b=some o
 slot:∀ b o,h.get? b=some o→H b=none→b ∈ fs→b ∉ ex→∃ sl,h'.get? b=some { o with slots:=sl }
 free:∀ b o,h.get? b=some o→H b=none→b ∉ ex→H' b=none
 there:∀ b o,h.get? b=some o→b ∉ ex→∃ o',h'.get? b=some o'
 tups:∀ b xs,H b=some (.tup xs)→H' b=some (.tup xs)
 frzs:∀ b o u,H b=some (.frz o u)→H' b=some (.frz o u)
 tbls:∀ b ps,H b=some (.tbl ps)→∃ more,H' b=some (.tbl (ps ++ more))
section
variable {fs fs' ex ex':List Addr} {H H1 H2:Hp} {h h1 h2 h':Heap} {a x e:Addr} {o:HO}
theorem Un.any(u:Un fs ex H H1 h h1){b:Addr}{ob:Obj}(q:h.get? b=some ob)(n:H b=none)(hx:b ∉ ex):∃ sl,h1.get? b=some { ob with slots:=sl }:=by
 by_cases hb:b ∈ fs
 ·exact u.slot b ob q n hb hx
 ·exact ⟨ob.slots,u.keep b ob q n hb hx⟩
theorem Un.kept(k:∀ b u,h.get? b=some u→h'.get? b=some u):Un fs ex H H h h' :=
 ⟨fun b ob q _ _ _=>k b ob q,fun b ob q _ _ _=>⟨ob.slots,k b ob q⟩,fun _ _ _ n _=>n,fun b ob q _=>⟨ob,k b ob q⟩,fun _ _ q=>q,fun _ _ _ q=>q,fun _ ps q=>⟨#[],by rw [q];simp⟩⟩
theorem Un.refl:Un fs ex H H h h:=Un.kept fun _ _ q=>q
theorem Un.laid(k:∀ b u,h.get? b=some u→h'.get? b=some u)(hp:h.objs.size ≤ a)(hn:H a=none):Un fs ex H (upd H a o) h h' where
 keep:=fun b u q _ _ _=>k b u q
 slot:=fun b u q _ _ _=>⟨u.slots,k b u q⟩
 free:=fun b u q n _=>by rw [upd_ne (Nat.ne_of_lt (Nat.lt_of_lt_of_le (Heap.lt_size q) hp))];exact n
 there:=fun b u q _=>⟨u,k b u q⟩
 tups:=fun b xs q=>by rw [upd_ne (ne_of_none q hn)];exact q
 frzs:=fun b u xs q=>by rw [upd_ne (ne_of_none q hn)];exact q
 tbls:=fun b ps q=>⟨#[],by rw [upd_ne (ne_of_none q hn),q];simp⟩
theorem Un.write(mu:Mut (H x))(he:e=x∨H e=some (.own x))(k:∀ b u,b ≠ e→h.get? b=some u→h'.get? b=some u)(heo:∃ u,h'.get? e=some u):Un fs ex H (upd H x o) h h':=by
 have hx:∀ b,H b=none→b ≠ x:=fun b n z=>by subst z;rw [n] at mu;exact mu
 have hb:∀ b,H b=none→b ≠ e:=fun b n z=>by
  subst z
  rcases he with r | r
  ·exact hx b n r
  ·rw [n] at r;cases r
 have hm:∀ b u,H b=some u→¬ Mut (some u)→b ≠ x:=fun b u q nm z=>by subst z;rw [q] at mu;exact nm mu
 refine ⟨fun b u q n _ _=>k b u (hb b n) q,fun b u q n _ _=>⟨u.slots,k b u (hb b n) q⟩,fun b u q n _=>by rw [upd_ne (hx b n)];exact n,fun b u q _=>?_,
  fun b xs q=>by rw [upd_ne (hm b _ q fun z=>z)];exact q,fun b u xs q=>by rw [upd_ne (hm b _ q fun z=>z)];exact q,fun b ps q=>⟨#[],by rw [upd_ne (hm b _ q fun z=>z),q];simp⟩⟩
 by_cases hbe:b=e
 ·subst hbe;exact heo
 ·exact ⟨u,k b u hbe q⟩
end
noncomputable def trk(h:Heap)(H:Hp):List Addr:=(List.range h.objs.size).filter fun a=>(H a).isSome
noncomputable def hidT(h:Heap)(H:Hp):Heap:=PySem.W.hideAll h (trk h H)
theorem hidT_size(h:Heap)(H:Hp):(hidT h H).objs.size=h.objs.size:=PySem.W.hideAll_size _ _
theorem hidT_get{h:Heap}{H:Hp}{b:Addr}{o:Obj}(e:h.get? b=some o)(n:H b=none):(hidT h H).get? b=some o :=
 PySem.W.hideAll_get _ e fun hm=>by
  have q:(H b).isSome=true:=(List.mem_filter.mp hm).2
  rw [n] at q;simp at q
theorem of_hidT{h:Heap}{H:Hp}{b:Addr}{o:Obj}(e:(hidT h H).get? b=some o):h.get? b=some o∧H b=none:=by
 have e':h.get? b=some o:=PySem.W.of_hideAll (trk h H) e
 refine ⟨e',?_⟩
 cases q:H b with
 |none=>rfl
 |some x =>
  have hm:b ∈ trk h H:=List.mem_filter.mpr ⟨List.mem_range.mpr (Heap.lt_size e'),by simp [q]⟩
  have z:(hidT h H).get? b=none:=PySem.W.hideAll_none (trk h H) hm
  rw [z] at e;cases e
end L2
namespace L2
open PySem PySem.Spec PyProof.Rows
structure Mod(K:PySem.W.Frag)(mg:Str→Option Value)(base:Heap):Prop where
 kin:K.In base
 glob:base.Ns mainGlobals mg
 blt:∃ mb,base.Ns builtinsNs mb∧∀ x:Str,x ≠ "__name__"→mb x=bootBuiltins x
 nolimit:base.NoLimit
set_option genInjectivity false in
structure Cx where
 prog:Program
 w:World
 K:PySem.W.Frag
 mg:Str→Option Value
 base:Heap
 A:Around
 N:List Str
 s₀:Shared
 H₀:Hp
 env:Env
 outer:List Env
 stack:List Env
 ex:List Addr
 fn:Str→Bool
 calm:Bool
 pn:List (Addr×Obj)
 xe:Value→Shared→Prop
 ex9:Value→Option Addr→Hp→Prop:=fun _ _ _=>False
noncomputable def frs(l:List Env):List Addr:=l.filterMap (·.frame)
noncomputable abbrev Cx.fs(X:Cx):List Addr:=frs X.outer
noncomputable def Vis(sc:Scope)(x:Str):Prop:=sc.names.lookup x=some .local∨sc.names.lookup x=some .cell∨sc.names.lookup x=some .free
noncomputable def Loc(sc:Scope)(x:Str):Prop:=sc.names.lookup x=some .local∨sc.names.lookup x=some .cell
noncomputable def Look(env:Env)(h:Heap)(m:Str→Option Value)(x:Str)(u:Value):Prop :=
 (env.kindOf x=some .local∧m x=some u)∨((env.kindOf x=some .cell∨env.kindOf x=some .free)∧∃ c,env.cells.lookup x=some c∧h.IsCell c (some u))
structure Cx.Ok(X:Cx):Prop where
 mod:Mod X.K X.mg X.base
 kind:X.env.scope.kind = .function
 glob:X.env.globals=mainGlobals
 blt:X.env.builtins=builtinsNs
 above:X.s₀.heap.objs.size ≤ X.env.locals
 inj:∀ x y c,X.env.cells.lookup x=some c→X.env.cells.lookup y=some c→x=y
 has:∀ x,(X.env.kindOf x=some .cell∨X.env.kindOf x=some .free)→∃ c,X.env.cells.lookup x=some c
 cab:∀ x c,X.fn x=true→X.env.cells.lookup x=some c→X.s₀.heap.objs.size ≤ c
 hd:X.calm=true→X.A.handled=none
 frames:X.A.frames=some X.stack
 stk:X.stack=X.outer∨(X.stack=X.env :: X.outer∧X.env.frame=some X.env.locals)
 exf:∀ b ∈ X.ex,b ≠ X.env.locals∧∀ x c,X.env.cells.lookup x=some c→c ≠ b
 bs:∀ b o,X.base.get? b=some o→X.s₀.heap.get? b=some o∧X.H₀ b=none
 bsz:X.base.objs.size ≤ X.s₀.heap.objs.size
 noex:∀ b o,X.base.get? b=some o→b ∉ X.ex
 exfs:∀ b ∈ X.ex,b ∉ X.fs
 funs:X.s₀.heap.FunFrames X.base X.outer
 frf:∀ b ∈ X.fs,X.H₀ b=none
structure Inv(X:Cx)(pins:List (Addr×Obj))(σ:List (Option V))(H:Hp)(s:Shared):Prop where
 ok:X.Ok
 os:s.os=X.s₀.os
 bare:AllBare s.gens
 base:Un X.fs X.ex X.H₀ H X.s₀.heap s.heap
 loc:∃ m,s.heap.Ns X.env.locals m∧∀ (i:Nat) (x:Str) (v:V),X.N[i]?=some x→σ[i]?=some (some v)→Vis X.env.scope x→∃ u,RelV v u∧Look X.env s.heap m x u
 cell:∀ x c,X.env.cells.lookup x=some c→∃ v,s.heap.IsCell c v
 free:H X.env.locals=none
 freeC:∀ x c,X.env.cells.lookup x=some c→H c=none
 pin:∀ p ∈ X.pn ++ pins,s.heap.get? p.1=some p.2∧H p.1=none∧p.1 ≠ X.env.locals∧p.1 ∉ X.fs∧∀ v,p.2.data ≠ .cell v
 hok:HOk X.prog X.w H s.heap
 len:σ.length=X.N.length
section
variable {X:Cx} {pins:List (Addr×Obj)} {σ:List (Option V)} {H H':Hp} {s:Shared} {h':Heap}
theorem Cx.Ok.nofr(ok:X.Ok){b:Addr}{o:Obj}(e:X.base.get? b=some o):b ∉ X.fs:=fun hb=>by
 have:=(ok.funs.mem hb).1
 rw [e] at this;cases this
theorem Inv.bs(I:Inv X pins σ H s):∀ b o,X.base.get? b=some o→s.heap.get? b=some o∧H b=none:=fun b o e =>
 ⟨I.base.keep b o (I.ok.bs b o e).1 (I.ok.bs b o e).2 (I.ok.nofr e) (I.ok.noex b o e),I.base.free b o (I.ok.bs b o e).1 (I.ok.bs b o e).2 (I.ok.noex b o e)⟩
theorem Inv.bk(I:Inv X pins σ H s):∀ b o,X.base.get? b=some o→s.heap.get? b=some o:=fun b o e=>(I.bs b o e).1
theorem Inv.mod(I:Inv X pins σ H s):Mod X.K X.mg X.base:=I.ok.mod
theorem Inv.kIn(I:Inv X pins σ H s):X.K.In s.heap:=I.ok.mod.kin.keeps I.bk
theorem Inv.lt(I:Inv X pins σ H s):X.env.locals < s.heap.objs.size:=let ⟨_,hn,_⟩:=I.loc;hn.lt
theorem Inv.sz(I:Inv X pins σ H s):X.s₀.heap.objs.size ≤ s.heap.objs.size:=Nat.le_trans I.ok.above (Nat.le_of_lt I.lt)
theorem Inv.nofs(I:Inv X pins σ H s){a:Addr}(h:s.heap.objs.size ≤ a):a ∉ X.fs:=fun hb=>by
 obtain ⟨_,o,ho,_⟩:=I.ok.funs.mem hb
 exact absurd (Nat.lt_of_lt_of_le (Heap.lt_size ho) (Nat.le_trans I.sz h)) (Nat.lt_irrefl _)
theorem Inv.cne(I:Inv X pins σ H s):∀ x c,X.env.cells.lookup x=some c→c ≠ X.env.locals:=fun x c e z=>by
 obtain ⟨v,o,ho,hd⟩:=I.cell x c e
 obtain ⟨m,⟨o',es,ep,ho',hd',_⟩,_⟩:=I.loc
 rw [z,ho'] at ho;cases ho;rw [hd'] at hd;cases hd
theorem Inv.funs(I:Inv X pins σ H s):s.heap.FunFrames X.base X.outer:=by
 have all:∀ (l:List Env),(∀ b ∈ frs l,b ∈ X.fs)→X.s₀.heap.FunFrames X.base l→s.heap.FunFrames X.base l:=by
  intro l
  induction l with
  |nil=>intro _ _;trivial
  |cons env r ih =>
   intro hs hl
   obtain ⟨hk,⟨L,o,hf,hn,ho,hd⟩,hr⟩:=hl
   have hL:L ∈ X.fs:=hs L (by unfold frs;rw [List.filterMap_cons,hf];exact List.mem_cons_self)
   obtain ⟨sl,e⟩:=I.base.slot L o ho (I.ok.frf L hL) hL fun z=>I.ok.exfs L z hL
   exact ⟨hk,⟨L,_,hf,hn,e,hd⟩,ih (fun b hb=>hs b (by unfold frs;rw [List.filterMap_cons,hf];exact List.mem_cons_of_mem _ hb)) hr⟩
 exact all X.outer (fun _ hb=>hb) I.ok.funs
theorem Inv.stack(I:Inv X pins σ H s):s.heap.FunFrames X.base X.stack:=by
 rcases I.ok.stk with e | ⟨e,hf⟩
 ·rw [e];exact I.funs
 ·rw [e]
  obtain ⟨m,hn,_⟩:=I.loc
  refine .cons (by rw [I.ok.kind];decide) hf hn ?_ I.funs
  exact Heap.get?_none_of_le (Nat.le_trans I.ok.bsz I.ok.above)
theorem Inv.stkSub(I:Inv X pins σ H s):∀ b ∈ frs X.stack,b ∈ X.env.locals :: X.fs:=fun b hb=>by
 rcases I.ok.stk with e | ⟨e,hf⟩
 ·rw [e] at hb;exact List.mem_cons_of_mem _ hb
 ·rw [e] at hb
  unfold frs at hb
  rw [List.filterMap_cons,hf] at hb
  exact hb
theorem Inv.stkFree(I:Inv X pins σ H s):∀ b ∈ frs X.stack,H b=none:=fun b hb=>by
 rcases List.mem_cons.mp (I.stkSub b hb) with e | hb
 ·rw [e];exact I.free
 ·obtain ⟨_,o,ho,_⟩:=I.ok.funs.mem hb
  exact I.base.free b o ho (I.ok.frf b hb) fun z=>I.ok.exfs b z hb
theorem Inv.step{g':Array GenState}{t':Nat}{d':Drawn}{ch:List Addr}(I:Inv X pins σ H s)
  (hch:∀ b ∈ ch,(b ∈ X.ex∨X.s₀.heap.objs.size ≤ b)∧b ≠ X.env.locals∧(∀ x c,X.env.cells.lookup x=some c→c ≠ b)∧∀ p ∈ X.pn ++ pins,p.1 ≠ b)
  (keep:∀ b o,b ≠ X.env.locals→b ∉ X.fs→b ∉ ch→s.heap.get? b=some o→H b=none→h'.get? b=some o)
  (slot:∀ b o,b ≠ X.env.locals→b ∈ X.fs→b ∉ ch→s.heap.get? b=some o→H b=none→∃ sl,h'.get? b=some { o with slots:=sl }) (free:∀ b o,b ∉ ch→s.heap.get? b=some o→H b=none→H' b=none)
  (there:∀ b o,b ∉ ch→s.heap.get? b=some o→∃ o',h'.get? b=some o')
  (tups:∀ b xs,H b=some (.tup xs)→H' b=some (.tup xs)) (frzs:∀ b o u,H b=some (.frz o u)→H' b=some (.frz o u)) (tbls:∀ b ps,H b=some (.tbl ps)→∃ more,H' b=some (.tbl (ps ++ more)))
  (ns:∀ m,s.heap.Ns X.env.locals m→h'.Ns X.env.locals m) (hok:HOk X.prog X.w H' h') (hg:AllBare g') :
  Inv X pins σ H' { s with heap:=h',gens:=g',drawn:=d',toks:=t' }:=by
 have neL:∀ b o,X.s₀.heap.get? b=some o→b ≠ X.env.locals:=fun b o e=>Nat.ne_of_lt (Nat.lt_of_lt_of_le (Heap.lt_size e) I.ok.above)
 have neC:∀ b o,X.s₀.heap.get? b=some o→b ∉ X.ex→b ∉ ch:=fun b o e hx hb=>by
  rcases (hch b hb).1 with z | z
  ·exact hx z
  ·exact absurd (Nat.lt_of_lt_of_le (Heap.lt_size e) z) (Nat.lt_irrefl _)
 have cellK:∀ x c,X.env.cells.lookup x=some c→∀ v,s.heap.IsCell c v→h'.IsCell c v:=fun x c e v zz0=>by
  obtain ⟨o,ho,hd⟩:=zz0
  have nch:c ∉ ch:=fun z=>(hch c z).2.2.1 x c e rfl
  by_cases hc:c ∈ X.fs
  ·obtain ⟨sl,q⟩:=slot c o (I.cne x c e) hc nch ho (I.freeC x c e)
   exact ⟨_,q,hd⟩
  ·exact ⟨o,keep c o (I.cne x c e) hc nch ho (I.freeC x c e),hd⟩
 refine ⟨I.ok,I.os,hg,⟨fun b o e n hb hx=>?_,fun b o e n hb hx=>?_,fun b o e n hx=>?_,fun b o e hx=>?_,fun b xs e=>tups b xs (I.base.tups b xs e),fun b o xs e=>frzs b o xs (I.base.frzs b o xs e),fun b ps e=>?_⟩,?_,fun x c e=>?_,?_,fun x c e=>?_,fun p hp=>?_,hok,I.len⟩
 ·exact keep b o (neL b o e) hb (neC b o e hx) (I.base.keep b o e n hb hx) (I.base.free b o e n hx)
 ·obtain ⟨sl,e1⟩:=I.base.slot b o e n hb hx
  obtain ⟨sl',e2⟩:=slot b _ (neL b o e) hb (neC b o e hx) e1 (I.base.free b o e n hx)
  exact ⟨sl',e2⟩
 ·obtain ⟨o',e1⟩:=I.base.there b o e hx
  exact free b o' (neC b o e hx) e1 (I.base.free b o e n hx)
 ·obtain ⟨o',e1⟩:=I.base.there b o e hx
  exact there b o' (neC b o e hx) e1
 ·obtain ⟨m1,e1⟩:=I.base.tbls b ps e
  obtain ⟨m2,e2⟩:=tbls b _ e1
  exact ⟨m1 ++ m2,by rw [e2,Array.append_assoc]⟩
 ·obtain ⟨m,hn,hl⟩:=I.loc
  refine ⟨m,ns m hn,fun i x v e1 e2 e3=>?_⟩
  obtain ⟨u,r,l⟩:=hl i x v e1 e2 e3
  refine ⟨u,r,?_⟩
  rcases l with l | ⟨k,c,e,z⟩
  ·exact .inl l
  ·exact .inr ⟨k,c,e,cellK x c e _ z⟩
 ·obtain ⟨v,z⟩:=I.cell x c e
  exact ⟨v,cellK x c e v z⟩
 ·obtain ⟨m,⟨o,_,_,ho,_⟩,_⟩:=I.loc
  exact free _ o (fun z=>(hch _ z).2.1 rfl) ho I.free
 ·obtain ⟨v,o,ho,hd⟩:=I.cell x c e
  exact free c o (fun z=>(hch c z).2.2.1 x c e rfl) ho (I.freeC x c e)
 ·obtain ⟨e,n,ne,nf,d⟩:=I.pin p hp
  have nch:p.1 ∉ ch:=fun z=>(hch p.1 z).2.2.2 p hp rfl
  exact ⟨keep p.1 p.2 ne nf nch e n,free p.1 p.2 nch e n,ne,nf,d⟩
theorem Inv.un{t':Nat}(I:Inv X pins σ H s)(u:Un X.fs [] H H' s.heap h')(hok:HOk X.prog X.w H' h'):Inv X pins σ H' { s with heap:=h',toks:=t' }:=by
 obtain ⟨m,⟨o,es,ep,ho,r⟩,_⟩:=id I.loc
 obtain ⟨sl,hL⟩:=u.any ho I.free (by simp)
 exact I.step (g':=s.gens) (d':=s.drawn) (ch:=[]) (fun _ z=>nomatch z) (fun b o _ hb _ e n=>u.keep b o e n hb (by simp)) (fun b o _ hb _ e n=>u.slot b o e n hb (by simp)) (fun b o _ e n=>u.free b o e n (by simp)) (fun b o _ e=>u.there b o e (by simp)) u.tups u.frzs u.tbls (fun m' hm=>by
  obtain ⟨o',es',ep',ho',r'⟩:=hm
  rw [ho] at ho';cases ho'
  exact ⟨_,es',ep',hL,r'⟩) hok I.bare
theorem Inv.call{g':Array GenState}{t':Nat}{d':Drawn}{ch:List Addr}(I:Inv X pins σ H s)(u:Un (frs X.stack) ch H H' s.heap h')(hok:HOk X.prog X.w H' h')(hg:AllBare g')
  (hch:∀ b ∈ ch,(b ∈ X.ex∨X.s₀.heap.objs.size ≤ b)∧b ≠ X.env.locals∧(∀ x c,X.env.cells.lookup x=some c→c ≠ b)∧∀ p ∈ X.pn ++ pins,p.1 ≠ b) :
  Inv X pins σ H' { s with heap:=h',gens:=g',drawn:=d',toks:=t' }:=by
 obtain ⟨m,⟨o,es,ep,ho,r⟩,_⟩:=id I.loc
 obtain ⟨sl,hL⟩:=u.any ho I.free fun z=>(hch _ z).2.1 rfl
 exact I.step (ch:=ch) hch (fun b o hL hb hc e n=>u.keep b o e n (fun z=>(List.mem_cons.mp (I.stkSub b z)).elim hL hb) hc) (fun b o _ _ hc e n=>u.any e n hc) (fun b o hc e n=>u.free b o e n hc) (fun b o hc e=>u.there b o e hc) u.tups u.frzs u.tbls (fun m' hm=>by
  obtain ⟨o',es',ep',ho',r'⟩:=hm
  rw [ho] at ho';cases ho'
  exact ⟨_,es',ep',hL,r'⟩) hok hg
theorem Inv.turned{t':Nat}{it:Addr}(I:Inv X pins σ H s)(k:∀ b o,b ≠ it→s.heap.get? b=some o→h'.get? b=some o)(hn:H it=none)(hL:it ≠ X.env.locals)
  (h1:it ∈ X.ex∨X.s₀.heap.objs.size ≤ it) (h2:∀ x c,X.env.cells.lookup x=some c→c ≠ it) (h3:∀ p ∈ X.pn ++ pins,p.1 ≠ it):Inv X pins σ H { s with heap:=h',toks:=t' }:=by
 have nit:∀ b u,H b=some u→b ≠ it:=fun b u e z=>by rw [z,hn] at e;cases e
 refine I.step (g':=s.gens) (d':=s.drawn) (ch:=[it]) (fun b hb=>?_) (fun b o _ _ hc e _=>k b o (fun z=>hc (by simp [z])) e) (fun b o _ _ hc e _=>⟨o.slots,k b o (fun z=>hc (by simp [z])) e⟩) (fun _ _ _ _ n=>n)
  (fun b o hc e=>⟨o,k b o (fun z=>hc (by simp [z])) e⟩) (fun _ _ e=>e) (fun _ _ _ e=>e) (fun b ps e=>⟨#[],by rw [e];simp⟩) (fun m hm=>?_) (fun b u e=>?_) I.bare
 ·have e:b=it:=by simpa using hb
  subst e
  exact ⟨h1,hL,h2,h3⟩
 ·obtain ⟨o,es,ep,ho,r⟩:=hm
  exact ⟨o,es,ep,k _ o (Ne.symm hL) ho,r⟩
 ·refine (I.hok b u e).stay (fun c v hc q=>k c v ?_ q) (fun _ q=>q) fun _ _ q=>q
  rcases hc with z | z
  ·rw [z];exact nit b u e
  ·exact nit c _ z
theorem Inv.tok(I:Inv X pins σ H s)(t:Nat):Inv X pins σ H { s with toks:=t }:=I.un (h':=s.heap) (t':=t) Un.refl I.hok
theorem Inv.kept{t':Nat}(I:Inv X pins σ H s)(k:∀ b u,s.heap.get? b=some u→h'.get? b=some u):Inv X pins σ H { s with heap:=h',toks:=t' }:=I.un (Un.kept k) (I.hok.kept k)
theorem Inv.laid{a:Addr}{o:HO}{t':Nat}(I:Inv X pins σ H s)(k:∀ b u,s.heap.get? b=some u→h'.get? b=some u)(hp:s.heap.objs.size ≤ a)(new:ObjOk X.prog X.w (upd H a o) h' a o) :
  Inv X pins σ (upd H a o) { s with heap:=h',toks:=t' }:=I.un (Un.laid k hp (I.hok.fresh hp)) (I.hok.laid k hp new)
theorem Inv.write{x e:Addr}{o:HO}{t':Nat}(I:Inv X pins σ H s)(mu:Mut (H x))(he:e=x∨H e=some (.own x))(k:∀ b u,b ≠ e→s.heap.get? b=some u→h'.get? b=some u)(heo:∃ u,h'.get? e=some u)
  (new:ObjOk X.prog X.w (upd H x o) h' x o):Inv X pins σ (upd H x o) { s with heap:=h',toks:=t' }:=I.un (Un.write mu he k heo) (I.hok.write mu he k heo new)
theorem Inv.pins_of{pins':List (Addr×Obj)}(I:Inv X pins σ H s)(h:∀ p ∈ pins',s.heap.get? p.1=some p.2∧H p.1=none∧p.1 ≠ X.env.locals∧p.1 ∉ X.fs∧∀ v,p.2.data ≠ .cell v):Inv X pins' σ H s :=
 ⟨I.ok,I.os,I.bare,I.base,I.loc,I.cell,I.free,I.freeC,fun p hp=>(List.mem_append.mp hp).elim (fun z=>I.pin p (List.mem_append_left _ z)) (h p),I.hok,I.len⟩
theorem nodup_ix{N:List Str}(hN:N.Nodup){i j:Nat}{x:Str}(a:N[i]?=some x)(b:N[j]?=some x):i=j:=by
 obtain ⟨h1,e1⟩:=List.getElem?_eq_some_iff.mp a
 obtain ⟨h2,e2⟩:=List.getElem?_eq_some_iff.mp b
 exact (List.getElem_inj hN).mp (e1.trans e2.symm)
theorem store_ok2{M:Model}{A:Around}{E:Value→Shared→Prop}{i:Nat}{x:Str}{v:V}{u:Value}{Q:Unit→Shared→Prop}(I:Inv X pins σ H s)(hN:X.N.Nodup)(hi:X.N[i]?=some x)(hx:Loc X.env.scope x)(r:RelV v u)
  (h:∀ s',Inv X pins (σ.set i (some v)) H s'→(∃ a,Heap.SameBut a s.heap s'.heap∧(a=X.env.locals∨X.env.cells.lookup x=some a))→Q () s') (hf:X.fn x=true∨X.env.scope.names.lookup x=some .local:=by trivial):wpAny M A (storeName X.env x u) Q E s:=by
 obtain ⟨m,hn,hl⟩:=id I.loc
 have hcls:(X.env.scope.kind == .class || (X.env.scope.kind == .module && X.env.locals != X.env.globals))=false:=by rw [I.ok.kind];rfl
 have hiσ:i < σ.length:=by rw [I.len];exact (List.getElem?_eq_some_iff.mp hi).1
 have cne:=I.cne
 have tracked:∀ {a:Addr} {h':Heap},(∃ o,s.heap.get? a=some o∧H a=none)→Heap.SameBut a s.heap h'→HOk X.prog X.w H h':=fun {a h'} ha hs b ob e=>by
  obtain ⟨_,_,hfree⟩:=ha
  refine (I.hok b ob e).stay (fun c w' hc q=>(hs.2 c ?_).trans q) (fun _ q=>q) fun _ _ q=>q
  rintro rfl
  rcases hc with rfl | hc
  ·rw [hfree] at e;cases e
  ·rw [hfree] at hc;cases hc
 rcases hx with hk | hk
 ·refine wpAny_storeName_local hk hn (fun h' hn' hs=>?_) hcls
  obtain ⟨oL,_,_,hoL,_⟩:=id hn
  refine h _ ⟨I.ok,I.os,I.bare,⟨fun b o e n hb hx=>?_,fun b o e n hb hx=>?_,I.base.free,fun b o e hx=>?_,I.base.tups,I.base.frzs,I.base.tbls⟩,⟨_,hn',fun j y v' e1 e2 e3=>?_⟩,fun y c e=>?_,I.free,I.freeC,fun p hp=>?_,tracked ⟨oL,hoL,I.free⟩ hs,by simpa using I.len⟩ ⟨_,hs,.inl rfl⟩
  ·exact (hs.2 b (Nat.ne_of_lt (Nat.lt_of_lt_of_le (Heap.lt_size e) I.ok.above))).trans (I.base.keep b o e n hb hx)
  ·obtain ⟨sl,e1⟩:=I.base.slot b o e n hb hx
   exact ⟨sl,(hs.2 b (Nat.ne_of_lt (Nat.lt_of_lt_of_le (Heap.lt_size e) I.ok.above))).trans e1⟩
  ·obtain ⟨o',e1⟩:=I.base.there b o e hx
   exact ⟨o',(hs.2 b (Nat.ne_of_lt (Nat.lt_of_lt_of_le (Heap.lt_size e) I.ok.above))).trans e1⟩
  ·by_cases hj:j=i
   ·subst hj
    rw [hi] at e1;cases e1
    rw [List.getElem?_set_self hiσ] at e2
    cases e2
    exact ⟨u,r,.inl ⟨hk,by simp⟩⟩
   ·rw [List.getElem?_set_ne (Ne.symm hj)] at e2
    obtain ⟨u',r',q⟩:=hl j y v' e1 e2 e3
    refine ⟨u',r',?_⟩
    rcases q with ⟨k,e⟩ | ⟨k,c,e,z⟩
    ·refine .inl ⟨k,?_⟩
     have:y ≠ x:=fun e=>hj (nodup_ix hN e1 (e ▸ hi))
     simp [this,e]
    ·exact .inr ⟨k,c,e,z.sameBut hs (cne y c e)⟩
  ·obtain ⟨w',z⟩:=I.cell y c e
   exact ⟨w',z.sameBut hs (cne y c e)⟩
  ·obtain ⟨e,n,ne,nf,d⟩:=I.pin p hp
   exact ⟨(hs.2 p.1 ne).trans e,n,ne,nf,d⟩
 ·have hfn:X.fn x=true:=by
   rcases hf with z | z
   ·exact z
   ·rw [z] at hk;cases hk
  obtain ⟨c,hc⟩:=I.ok.has x (.inl hk)
  obtain ⟨w',z⟩:=I.cell x c hc
  refine wpAny_storeName_cell I.ok.kind hk hc z (fun h' hc' hs=>?_)
  obtain ⟨oc,hoc,hocd⟩:=id z
  refine h { s with heap:=h' } ⟨I.ok,I.os,I.bare,⟨fun b o e n hb hx=>?_,fun b o e n hb hx=>?_,I.base.free,fun b o e hx=>?_,I.base.tups,I.base.frzs,I.base.tbls⟩,⟨m,hn.sameBut hs (Ne.symm (cne x c hc)),fun j y v' e1 e2 e3=>?_⟩,fun y c' e=>?_,I.free,I.freeC,fun p hp=>?_,tracked ⟨oc,hoc,I.freeC x c hc⟩ hs,by simpa using I.len⟩ ⟨c,hs,.inr hc⟩
  ·exact (hs.2 b (Nat.ne_of_lt (Nat.lt_of_lt_of_le (Heap.lt_size e) (I.ok.cab x c hfn hc)))).trans (I.base.keep b o e n hb hx)
  ·obtain ⟨sl,e1⟩:=I.base.slot b o e n hb hx
   exact ⟨sl,(hs.2 b (Nat.ne_of_lt (Nat.lt_of_lt_of_le (Heap.lt_size e) (I.ok.cab x c hfn hc)))).trans e1⟩
  ·obtain ⟨o',e1⟩:=I.base.there b o e hx
   exact ⟨o',(hs.2 b (Nat.ne_of_lt (Nat.lt_of_lt_of_le (Heap.lt_size e) (I.ok.cab x c hfn hc)))).trans e1⟩
  ·by_cases hj:j=i
   ·subst hj
    rw [hi] at e1;cases e1
    rw [List.getElem?_set_self hiσ] at e2
    cases e2
    exact ⟨u,r,.inr ⟨.inl hk,c,hc,hc'⟩⟩
   ·rw [List.getElem?_set_ne (Ne.symm hj)] at e2
    obtain ⟨u',r',q⟩:=hl j y v' e1 e2 e3
    refine ⟨u',r',?_⟩
    rcases q with q | ⟨k,c',e,z'⟩
    ·exact .inl q
    ·refine .inr ⟨k,c',e,z'.sameBut hs ?_⟩
     rintro rfl
     exact hj (nodup_ix hN e1 (I.ok.inj _ _ _ e hc ▸ hi))
  ·by_cases hcc:c'=c
   ·subst hcc;exact ⟨_,hc'⟩
   ·obtain ⟨w2,z2⟩:=I.cell y c' e
    exact ⟨w2,z2.sameBut hs hcc⟩
  ·obtain ⟨e,n,ne,nf,d⟩:=I.pin p hp
   refine ⟨(hs.2 p.1 ?_).trans e,n,ne,nf,d⟩
   intro q
   rw [q,hoc] at e
   have q':oc=p.2:=Option.some.inj e
   exact d w' (by rw [← q'];exact hocd)
theorem store_ok{M:Model}{A:Around}{E:Value→Shared→Prop}{i:Nat}{x:Str}{v:V}{u:Value}{Q:Unit→Shared→Prop}(I:Inv X pins σ H s)(hN:X.N.Nodup)(hi:X.N[i]?=some x)(hx:Loc X.env.scope x)(r:RelV v u)
  (h:∀ s',Inv X pins (σ.set i (some v)) H s'→Q () s') (hf:X.fn x=true∨X.env.scope.names.lookup x=some .local:=by trivial):wpAny M A (storeName X.env x u) Q E s :=
 store_ok2 I hN hi hx r (fun s' I' _=>h s' I') hf
theorem Inv.call'{s':Shared}{ch:List Addr}(I:Inv X pins σ H s)(ho:s'.os=s.os)(u:Un (frs X.stack) ch H H' s.heap s'.heap)(hok:HOk X.prog X.w H' s'.heap)(hg:AllBare s'.gens)
  (hch:∀ b ∈ ch,(b ∈ X.ex∨X.s₀.heap.objs.size ≤ b)∧b ≠ X.env.locals∧(∀ x c,X.env.cells.lookup x=some c→c ≠ b)∧∀ p ∈ X.pn ++ pins,p.1 ≠ b):Inv X pins σ H' s':=by
 obtain ⟨h',g',d',t',o'⟩:=s'
 have e:o'=s.os:=ho
 subst e
 exact I.call (g':=g') (t':=t') (d':=d') u hok hg hch
end
noncomputable abbrev XK:=Value→Option Addr→Hp→Prop
noncomputable abbrev St:=List (Option V)
noncomputable abbrev VK:=V→Hp→Prop
noncomputable abbrev TE:=St→Hp→VK→Prop
noncomputable abbrev TT:=St→Hp→(Bool→Hp→Prop)→Prop
noncomputable abbrev TA:=St→Hp→(List V→Hp→Prop)→Prop
structure Ends where
 nx:St→Hp→Prop
 rt:VK
 bk:St→Hp→Prop:=fun _ _=>False
 ct:St→Hp→Prop:=fun _ _=>False
noncomputable abbrev TS:=Ends→St→Hp→Prop
noncomputable def EP(X:Cx)(pins:List (Addr×Obj))(σ:St)(Q:VK)(u:Value)(s':Shared):Prop:=∃ v H',Inv X pins σ H' s'∧RelV v u∧Q v H'
noncomputable def TP(X:Cx)(pins:List (Addr×Obj))(σ:St)(Q:Bool→Hp→Prop)(b:Bool)(s':Shared):Prop:=∃ H',Inv X pins σ H' s'∧Q b H'
noncomputable def AP(X:Cx)(pins:List (Addr×Obj))(σ:St)(Q:List V→Hp→Prop)(us:List Value)(s':Shared):Prop:=∃ vs H',Inv X pins σ H' s'∧Vals vs us∧Q vs H'
noncomputable def SP(X:Cx)(pins:List (Addr×Obj))(D:Ends)(f:Flow)(s':Shared):Prop :=
 match f with
 |.next=>∃ σ' H',Inv X pins σ' H' s'∧D.nx σ' H'
 |.brk=>∃ σ' H',Inv X pins σ' H' s'∧D.bk σ' H'
 |.cont=>∃ σ' H',Inv X pins σ' H' s'∧D.ct σ' H'
 |.ret u=>∃ v σ' H',Inv X pins σ' H' s'∧RelV v u∧D.rt v H'
noncomputable def PE(X:Cx)(e:Expr)(t:TE):Prop :=
 ∀ (pins:List (Addr×Obj)) (s:Shared) (σ:St) (H:Hp) (Q:VK),Inv X pins σ H s→t σ H Q→wpAny (model X.prog X.w) X.A (eval e X.env) (EP X pins σ Q) X.xe s
noncomputable def PT(X:Cx)(e:Expr)(t:TT):Prop :=
 ∀ (pins:List (Addr×Obj)) (s:Shared) (σ:St) (H:Hp) (Q:Bool→Hp→Prop),Inv X pins σ H s→t σ H Q→wpAny (model X.prog X.w) X.A (isTrue e X.env (eval e X.env)) (TP X pins σ Q) X.xe s
noncomputable def PW(X:Cx)(e:Expr)(t:TT):Prop :=
 ∀ (whole:Sem Value) (pins:List (Addr×Obj)) (s:Shared) (σ:St) (H:Hp) (Q:Bool→Hp→Prop),Inv X pins σ H s→t σ H Q→wpAny (model X.prog X.w) X.A (isTrue e X.env whole) (TP X pins σ Q) X.xe s
theorem PW.pt{X:Cx}{e:Expr}{t:TT}(h:PW X e t):PT X e t:=h _
noncomputable def PA(X:Cx)(es:List Expr)(t:TA):Prop :=
 ∀ (pos:Pos) (pins:List (Addr×Obj)) (s:Shared) (σ:St) (H:Hp) (Q:List V→Hp→Prop),Inv X pins σ H s→t σ H Q→wpAny (model X.prog X.w) X.A (spliced (backTo pos (starEach es X.env))) (AP X pins σ Q) X.xe s
noncomputable def PS(X:Cx)(st:Stmt)(t:TS):Prop :=
 ∀ (pins:List (Addr×Obj)) (s:Shared) (σ:St) (H:Hp) (D:Ends),Inv X pins σ H s→t D σ H→wpAny (model X.prog X.w) X.A (exec st X.env) (SP X pins D) X.xe s
noncomputable def PSs(X:Cx)(st:List Stmt)(t:TS):Prop :=
 ∀ (pins:List (Addr×Obj)) (s:Shared) (σ:St) (H:Hp) (D:Ends),Inv X pins σ H s→t D σ H→wpAny (model X.prog X.w) X.A (execs st X.env) (SP X pins D) X.xe s
theorem thn{α:Type}{t:Sem α}{Q Q':α→Shared→Prop}{M:Model}{A:Around}{E:Value→Shared→Prop}{s:Shared}(h:wpAny M A t Q E s)(hQ:∀ a s,Q a s→Q' a s):wpAny M A t Q' E s:=wpAny_mono h hQ fun _ _ x=>x
end L2
namespace L2
open PySem PySem.Spec PyProof.Rows
section
variable {X:Cx}
noncomputable def tVar(i:Nat):TE:=fun σ H Q=>∃ v,σ[i]?=some (some v)∧Q v H
noncomputable def tC(v:V):TE:=fun _ H Q=>Q v H
theorem pe_var{i:Nat}{x:Str}{pos:Pos}(hN:X.N[i]?=some x)(hv:Vis X.env.scope x)(hd:(x == ("__debug__":Str))=false:=by decide)(hcd:(x == ("__classdict__":Str))=false:=by decide):PE X (.Name x pos) (tVar i):=by
 intro pins s σ H Q I h
 obtain ⟨v,e,h⟩:=h
 obtain ⟨m,hn,hl⟩:=I.loc
 obtain ⟨u,r,l⟩:=hl i x v hN e hv
 have fin:EP X pins σ Q u s:=⟨v,H,I,r,h⟩
 rcases l with ⟨hk,hm⟩ | ⟨hk,c,hc,hcell⟩
 ·exact wpAny_Name (wpAny_loadName_local I.ok.kind hk hn hm fin) hd
 ·rcases hk with hk | hk
  ·exact wpAny_Name (wpAny_loadName_cell I.ok.kind hk hc hcell fin) hd
  ·exact wpAny_Name (wpAny_loadName_free I.ok.kind hk hc hcell fin hcd) hd
theorem pe_int{i j pos}:PE X (.Constant (.int i) j pos) (tC (.int i)):=fun _ _ _ H _ I h=>wpAny_Constant_int ⟨.int i,H,I.tok _,⟨_,rfl⟩,h⟩
theorem pe_bl{b j pos}:PE X (.Constant (.bool b) j pos) (tC (.bl b)):=fun _ _ _ H _ I h=>Constant_bool ⟨.bl b,H,I,rfl,h⟩
theorem pe_non{j pos}:PE X (.Constant .none j pos) (tC .non):=fun _ _ _ H _ I h=>Constant_none ⟨.non,H,I,rfl,h⟩
theorem pe_str{x j pos}:PE X (.Constant (.str x) j pos) (tC (.str x)):=fun _ _ _ H _ I h=>Calls.Constant_str ⟨.str x,H,I.tok _,⟨_,rfl⟩,h⟩
noncomputable def Gl(X:Cx)(x:Str):Prop:=X.env.kindOf x=some .globalImplicit
theorem ld_glob{E:Value→Shared→Prop}{pins:List (Addr×Obj)}{s:Shared}{σ:St}{H:Hp}{x:Str}{u:Value}{pos:Pos}{Q:Value→Shared→Prop}(I:Inv X pins σ H s)(hg:Gl X x)(hm:X.mg x=some u)(h:Q u s)
  (hd:(x == ("__debug__":Str))=false:=by decide):wpAny (model X.prog X.w) X.A (eval (.Name x pos) X.env) Q E s :=
 Calls.Name_function_global I.ok.kind hg (Calls.loadGlobal_global (by rw [I.ok.glob];exact I.mod.glob.keeps I.bk) hm h) hd
theorem ld_blt{E:Value→Shared→Prop}{pins:List (Addr×Obj)}{s:Shared}{σ:St}{H:Hp}{x:Str}{u:Value}{pos:Pos}{Q:Value→Shared→Prop}(I:Inv X pins σ H s)(hg:Gl X x)(hm:X.mg x=none)(hv:bootBuiltins x=some u)(h:Q u s)
  (hn:x ≠ "__name__":=by decide) (hd:(x == ("__debug__":Str))=false:=by decide):wpAny (model X.prog X.w) X.A (eval (.Name x pos) X.env) Q E s:=by
 obtain ⟨mb,h1,h2⟩:=I.mod.blt
 exact Calls.Name_function_global I.ok.kind hg (Calls.loadGlobal_builtin (by rw [I.ok.glob];exact I.mod.glob.keeps I.bk) hm (by rw [I.ok.blt];exact h1.keeps I.bk) ((h2 x hn).trans hv) h) hd
theorem pe_bltn{x:Str}{v:V}{u:Value}{pos:Pos}(hg:Gl X x)(hm:X.mg x=none)(hv:bootBuiltins x=some u)(r:RelV v u)(hn:x ≠ "__name__":=by decide)(hd:(x == ("__debug__":Str))=false:=by decide):PE X (.Name x pos) (tC v) :=
 fun _ _ _ H _ I h=>ld_blt I hg hm hv ⟨v,H,I,r,h⟩ hn hd
variable {a b:Expr} {ta tb:TE} {pos:Pos}
variable {tA tB':TT} {rest:List Expr}
noncomputable def tAnd(t u:TT):TT:=fun σ H Q=>t σ H fun c H1=>if c=true then u σ H1 Q else Q false H1
noncomputable def tOr(t u:TT):TT:=fun σ H Q=>t σ H fun c H1=>if c=true then Q true H1 else u σ H1 Q
noncomputable def tNot(t:TT):TT:=fun σ H Q=>t σ H fun c H1=>Q (!c) H1
theorem pw_and1(ha:PT X a tA):PW X (.BoolOp .And [a] pos) tA:=by
 intro wh pins s σ H Q I h
 refine isTrue_and (thn (ha pins s σ H Q I h) fun c s1 e=>?_)
 cases c with
 |true=>exact isTrue_and_nil e
 |false=>exact e
theorem pw_or1(ha:PT X a tA):PW X (.BoolOp .Or [a] pos) tA:=by
 intro wh pins s σ H Q I h
 refine isTrue_or (thn (ha pins s σ H Q I h) fun c s1 e=>?_)
 cases c with
 |false=>exact isTrue_or_nil e
 |true=>exact e
theorem pw_and(ha:PT X a tA)(hb:PW X (.BoolOp .And (b :: rest) pos) tB'):PW X (.BoolOp .And (a :: b :: rest) pos) (tAnd tA tB'):=by
 intro wh pins s σ H Q I h
 refine isTrue_and (thn (ha pins s σ H _ I h) fun c s1 zz0=>?_)
 obtain ⟨H1,I1,q1⟩:=zz0
 cases c with
 |true=>exact hb wh pins s1 σ H1 Q I1 q1
 |false=>exact ⟨H1,I1,q1⟩
theorem pw_or(ha:PT X a tA)(hb:PW X (.BoolOp .Or (b :: rest) pos) tB'):PW X (.BoolOp .Or (a :: b :: rest) pos) (tOr tA tB'):=by
 intro wh pins s σ H Q I h
 refine isTrue_or (thn (ha pins s σ H _ I h) fun c s1 zz0=>?_)
 obtain ⟨H1,I1,q1⟩:=zz0
 cases c with
 |true=>exact ⟨H1,I1,q1⟩
 |false=>exact hb wh pins s1 σ H1 Q I1 q1
theorem pt_not(ha:PT X a tA):PT X (.UnaryOp .Not a pos) (tNot tA):=by
 intro pins s σ H Q I h
 exact isTrue_not (ha pins s σ H (fun c H1=>Q (!c) H1) I h)
noncomputable def tAndV(ta tb:TE):TE:=fun σ H Q=>ta σ H fun x H1=>∃ c,x = .bl c∧if c=true then tb σ H1 Q else Q (.bl false) H1
noncomputable def tOrV(ta tb:TE):TE:=fun σ H Q=>ta σ H fun x H1=>∃ c,x = .bl c∧if c=true then Q (.bl true) H1 else tb σ H1 Q
noncomputable def tNotV(ta:TE):TE:=fun σ H Q=>ta σ H fun x H1=>∃ c,x = .bl c∧Q (.bl (!c)) H1
theorem pe_one{op}{t:TE}(h:PE X a t):PE X (.BoolOp op [a] pos) t:=fun pins s σ H Q I hw=>BoolOp_one (h pins s σ H Q I hw)
theorem pe_and(ha:PE X a ta)(hb:PE X (.BoolOp .And (b :: rest) pos) tb):PE X (.BoolOp .And (a :: b :: rest) pos) (tAndV ta tb):=by
 intro pins s σ H Q I h
 refine BoolOp_and (thn (ha pins s σ H _ I h) fun v s1 zz0=>?_)
 obtain ⟨x,H1,I1,r1,q1⟩:=zz0
 obtain ⟨c,rfl,q1⟩:=q1
 cases r1
 refine wpAny_truthy_bool ?_
 cases c with
 |true=>exact hb pins s1 σ H1 Q I1 q1
 |false=>exact ⟨.bl false,H1,I1,rfl,q1⟩
theorem pe_or(ha:PE X a ta)(hb:PE X (.BoolOp .Or (b :: rest) pos) tb):PE X (.BoolOp .Or (a :: b :: rest) pos) (tOrV ta tb):=by
 intro pins s σ H Q I h
 refine BoolOp_or (thn (ha pins s σ H _ I h) fun v s1 zz0=>?_)
 obtain ⟨x,H1,I1,r1,q1⟩:=zz0
 obtain ⟨c,rfl,q1⟩:=q1
 cases r1
 refine wpAny_truthy_bool ?_
 cases c with
 |false=>exact hb pins s1 σ H1 Q I1 q1
 |true=>exact ⟨.bl true,H1,I1,rfl,q1⟩
theorem pe_not(ha:PE X a ta):PE X (.UnaryOp .Not a pos) (tNotV ta):=by
 intro pins s σ H Q I h
 refine UnaryOp_ (thn (ha pins s σ H _ I h) fun v s1 zz0=>?_)
 obtain ⟨x,H1,I1,r1,q1⟩:=zz0
 obtain ⟨c,rfl,q1⟩:=q1
 cases r1
 exact not_of (wpAny_truthy_bool ⟨.bl (!c),H1,I1,rfl,q1⟩)
noncomputable def tIf(t:TT)(ta tb:TE):TE:=fun σ H Q=>t σ H fun c H1=>if c=true then ta σ H1 Q else tb σ H1 Q
theorem pe_ifExp{c:Expr}(hc:PT X c tA)(ha:PE X a ta)(hb:PE X b tb):PE X (.IfExp c a b pos) (tIf tA ta tb):=by
 intro pins s σ H Q I h
 refine wpAny_IfExp (thn (hc pins s σ H _ I h) fun d s1 zz0=>?_)
 obtain ⟨H1,I1,q1⟩:=zz0
 cases d with
 |true=>exact ha pins s1 σ H1 Q I1 q1
 |false=>exact hb pins s1 σ H1 Q I1 q1
end
end L2
namespace L2
open PySem PySem.Spec PyProof.Rows
noncomputable def SqL(K:PySem.W.Frag)(H:Hp)(a:Addr)(xs:List V):Prop :=
 Rd H a (.lst xs) ∨
  ∃ (o:Obj) (its:Array Value) (n:Nat),K.lookup a=some o∧o.cls = .type "list"∧o.dict=none∧o.data = .seq its n∧its.size ≤ sizeLine∧Vals xs its.toList
noncomputable def SqT(K:PySem.W.Frag)(H:Hp)(a:Addr)(xs:List V):Prop :=
 Rd H a (.tup xs) ∨
  ∃ (o:Obj) (its:Array Value) (n:Nat),K.lookup a=some o∧o.cls = .type "tuple"∧o.data = .seq its n∧its.size ≤ sizeLine∧Vals xs its.toList
noncomputable def absV:Value→Option V
 |.none=>some .non
 |.bool b=>some (.bl b)
 |.int i _=>some (.int i)
 |.str x _=>some (.str x)
 |.bytes b _=>some (.byt b)
 |.float b _=>some (.flt b)
 |.ref a=>some (.ref a)
 |.type n=>some (.ty n)
 |_=>none
theorem RelV.abs{x:V}{u:Value}(r:RelV x u):absV u=some x:=by
 cases x with
 |non=>cases r;rfl
 |bl _=>cases r;rfl
 |int _=>obtain ⟨t,rfl⟩:=r;rfl
 |str _=>obtain ⟨t,rfl⟩:=r;rfl
 |byt _=>obtain ⟨t,rfl⟩:=r;rfl
 |flt _=>obtain ⟨t,rfl⟩:=r;rfl
 |ref _=>cases r;rfl
 |ty _=>cases r;rfl
theorem RelV.inj{x y:V}{u:Value}(r:RelV x u)(q:RelV y u):x=y:=Option.some.inj (r.abs.symm.trans q.abs)
theorem Vals.inj{xs ys:List V}{us:List Value}(h:Vals xs us)(h':Vals ys us):xs=ys:=by
 induction h generalizing ys with
 |nil=>cases h';rfl
 |cons r _ ih =>
  cases h' with
  |cons r' t'=>rw [r.inj r',ih t']
section
variable {X:Cx} {pins:List (Addr×Obj)} {σ:St} {H:Hp} {s:Shared} {a:Addr} {xs ys:List V}
theorem SqL.of{K:PySem.W.Frag}(h:H a=some (.lst xs)):SqL K H a xs:=.inl (.inl h)
theorem Inv.list(I:Inv X pins σ H s)(h:SqL X.K H a xs):∃ its:List Value,Vals xs its∧PlainL s.heap a its.toArray∧xs.length ≤ sizeLine:=by
 rcases h with h | ⟨o,its,n,hk,hc,hd,hs,hz,r⟩
 ·obtain ⟨z,its,n,r,e⟩:=h.ok I.hok
  exact ⟨its,r,⟨_,n,e,rfl,rfl,rfl⟩,z⟩
 ·refine ⟨its.toList,r,⟨o,n,I.kIn a o hk,hc,hd,by simpa using hs⟩,?_⟩
  have e:=r.length
  simp only [Array.length_toList] at e
  omega
theorem Inv.tuple(I:Inv X pins σ H s)(h:SqT X.K H a xs):∃ its:List Value,Vals xs its∧IsTup s.heap a its.toArray∧xs.length ≤ sizeLine:=by
 rcases h with h | ⟨o,its,n,hk,hc,hs,hz,r⟩
 ·obtain ⟨z,its,r,p⟩:=h.ok I.hok
  exact ⟨its,r,p,z⟩
 ·refine ⟨its.toList,r,⟨o,I.kIn a o hk,hc,n,by simpa using hs⟩,?_⟩
  have e:=r.length
  simp only [Array.length_toList] at e
  omega
theorem Inv.list_inj(I:Inv X pins σ H s)(h:SqL X.K H a xs)(h':SqL X.K H a ys):xs=ys:=by
 obtain ⟨its,r,⟨o,n,e,_,_,d⟩,_⟩:=I.list h
 obtain ⟨its',r',⟨o',n',e',_,_,d'⟩,_⟩:=I.list h'
 rw [e] at e';cases e'
 rw [d] at d'
 injection d' with d1 _
 have:its=its':=by simpa using congrArg Array.toList d1
 subst this
 exact r.inj r'
theorem Inv.tuple_inj(I:Inv X pins σ H s)(h:SqT X.K H a xs)(h':SqT X.K H a ys):xs=ys:=by
 obtain ⟨its,r,⟨o,e,_,n,d⟩,_⟩:=I.tuple h
 obtain ⟨its',r',⟨o',e',_,n',d'⟩,_⟩:=I.tuple h'
 rw [e] at e';cases e'
 rw [d] at d'
 injection d' with d1 _
 have:its=its':=by simpa using congrArg Array.toList d1
 subst this
 exact r.inj r'
end
noncomputable abbrev Cx.wish(X:Cx)(E:Value→Shared→Prop):Cx:={ X with xe:=E }
noncomputable abbrev Cx.nox(X:Cx):Cx:=X.wish fun _ _=>False
theorem Cx.Ok.wish{X:Cx}(ok:X.Ok)(E:Value→Shared→Prop):(X.wish E).Ok :=
 ⟨ok.mod,ok.kind,ok.glob,ok.blt,ok.above,ok.inj,ok.has,ok.cab,ok.hd,ok.frames,ok.stk,ok.exf,ok.bs,ok.bsz,ok.noex,ok.exfs,ok.funs,ok.frf⟩
theorem Cx.Ok.unwish{X:Cx}{E:Value→Shared→Prop}(ok:(X.wish E).Ok):X.Ok :=
 ⟨ok.mod,ok.kind,ok.glob,ok.blt,ok.above,ok.inj,ok.has,ok.cab,ok.hd,ok.frames,ok.stk,ok.exf,ok.bs,ok.bsz,ok.noex,ok.exfs,ok.funs,ok.frf⟩
section
variable {X:Cx} {pins:List (Addr×Obj)} {σ:St} {H:Hp} {s:Shared} {E:Value→Shared→Prop}
theorem Inv.wish(I:Inv X pins σ H s)(E:Value→Shared→Prop):Inv (X.wish E) pins σ H s:=⟨I.ok.wish E,I.os,I.bare,I.base,I.loc,I.cell,I.free,I.freeC,I.pin,I.hok,I.len⟩
theorem Inv.unwish(I:Inv (X.wish E) pins σ H s):Inv X pins σ H s:=⟨I.ok.unwish,I.os,I.bare,I.base,I.loc,I.cell,I.free,I.freeC,I.pin,I.hok,I.len⟩
theorem SP.unwish{D:Ends}{f:Flow}{s':Shared}(h:SP (X.wish E) pins D f s'):SP X pins D f s':=by
 cases f with
 |next=>obtain ⟨σ',H',I,q⟩:=h;exact ⟨σ',H',I.unwish,q⟩
 |brk=>obtain ⟨σ',H',I,q⟩:=h;exact ⟨σ',H',I.unwish,q⟩
 |cont=>obtain ⟨σ',H',I,q⟩:=h;exact ⟨σ',H',I.unwish,q⟩
 |ret u=>obtain ⟨v,σ',H',I,r,q⟩:=h;exact ⟨v,σ',H',I.unwish,r,q⟩
theorem PSs.nox{st:List Stmt}{t:TS}(h:PSs X.nox st t):PSs X st t:=fun pins s σ H D I hw =>
 wpAny_mono (h pins s σ H D (I.wish _) hw) (fun _ _ q=>q.unwish) fun _ _ z=>False.elim z
end
section
variable {X:Cx} {st:Stmt} {rest:List Stmt} {t u:TS} {e:Expr} {te:TE} {pos:Pos}
noncomputable def tNext:TS:=fun D σ H=>D.nx σ H
noncomputable def tSeq(t u:TS):TS:=fun D σ H=>t { D with nx:=u D } σ H
theorem pss_nil:PSs X [] tNext:=fun _ _ σ H _ I h=>wpAny_execs_nil ⟨σ,H,I,h⟩
theorem pss_cons(h1:PS X st t)(h2:PSs X rest u):PSs X (st :: rest) (tSeq t u):=by
 intro pins s σ H D I h
 refine wpAny_execs_cons (thn (h1 pins s σ H { D with nx:=u D } I h) fun f s1 q=>?_)
 cases f with
 |next =>
  obtain ⟨σ',H',I',q⟩:=q
  exact h2 pins s1 σ' H' D I' q
 |ret v=>exact q
 |brk=>exact q
 |cont=>exact q
theorem pss_one(h1:PS X st t):PSs X [st] t:=by
 intro pins s σ H D I h
 refine wpAny_execs_cons (thn (h1 pins s σ H D I h) fun f s1 q=>?_)
 cases f with
 |next=>exact wpAny_execs_nil q
 |ret v=>exact q
 |brk=>exact q
 |cont=>exact q
theorem Inv.quiet{pins:List (Addr×Obj)}{σ:St}{H:Hp}{s:Shared}(I:Inv X pins σ H s):interactive X.env=false:=by simp [interactive,I.ok.kind]
noncomputable def tDrop(te:TE):TS:=fun D σ H=>te σ H fun _ H1=>D.nx σ H1
theorem ps_expr(he:PE X e te)(hs:swapsWith e none pos.line X.env=pure false:=by rfl):PS X (.Expr e pos) (tDrop te):=by
 intro pins s σ H D I h
 exact wpAny_Expr_any (thn (he pins s σ H _ I h) fun v s1 ⟨x,H1,I1,r1,q1⟩=>⟨σ,H1,I1,q1⟩) I.quiet hs
noncomputable def tRet(te:TE):TS:=fun D σ H=>te σ H D.rt
theorem ps_ret(he:PE X e te):PS X (.Return (some e) pos) (tRet te):=by
 intro pins s σ H D I h
 exact wpAny_Return_some (thn (he pins s σ H _ I h) fun v s1 ⟨x,H1,I1,r1,q1⟩=>⟨x,σ,H1,I1,r1,q1⟩)
noncomputable def tIfS(c:TT)(t u:TS):TS:=fun D σ H=>c σ H fun b H1=>if b=true then t D σ H1 else u D σ H1
theorem ps_if{c:Expr}{a b:List Stmt}{tc:TT}(hc:PT X c tc)(ha:PSs X a t)(hb:PSs X b u):PS X (.If c a b pos) (tIfS tc t u):=by
 intro pins s σ H D I h
 refine wpAny_If (thn (hc pins s σ H _ I h) fun d s1 zz0=>?_)
 obtain ⟨H1,I1,q1⟩:=zz0
 cases d with
 |true=>exact ha pins s1 σ H1 D I1 q1
 |false=>exact hb pins s1 σ H1 D I1 q1
end
noncomputable abbrev TG:=V→St→Hp→(St→Hp→Prop)→Prop
noncomputable abbrev TGs:=List V→St→Hp→(St→Hp→Prop)→Prop
noncomputable def PG(X:Cx)(target:Expr)(t:TG):Prop :=
 ∀ (pins:List (Addr×Obj)) (s:Shared) (σ:St) (H:Hp) (v:V) (u:Value) (Q:St→Hp→Prop),Inv X pins σ H s→RelV v u→t v σ H Q →
  wpAny (model X.prog X.w) X.A (assign target X.env u) (fun _ s'=>∃ σ' H',Inv X pins σ' H' s'∧Q σ' H') X.xe s
noncomputable def PGs(X:Cx)(ts:List Expr)(t:TGs):Prop :=
 ∀ (pins:List (Addr×Obj)) (s:Shared) (σ:St) (H:Hp) (vs:List V) (us:List Value) (Q:St→Hp→Prop),Inv X pins σ H s→Vals vs us→t vs σ H Q →
  wpAny (model X.prog X.w) X.A (assignInOrder ((assignEach ts X.env).map (·.2)) us) (fun _ s'=>∃ σ' H',Inv X pins σ' H' s'∧Q σ' H') X.xe s
noncomputable abbrev TSet:=V→V→V→Hp→(Hp→Prop)→Prop
noncomputable def PSet(X:Cx)(t:TSet):Prop :=
 ∀ (pins:List (Addr×Obj)) (s:Shared) (σ:St) (H:Hp) (o i v:V) (ov iv u:Value) (Q:Hp→Prop),Inv X pins σ H s→RelV o ov→RelV i iv→RelV v u→t o i v H Q →
  wpAny (model X.prog X.w) X.A (setItem ov iv u) (fun _ s'=>∃ H',Inv X pins σ H' s'∧Q H') X.xe s
section
variable {X:Cx} {pos:Pos}
noncomputable def gName(i:Nat):TG:=fun v σ H Q=>Q (σ.set i (some v)) H
theorem pg_name{i:Nat}{x:Str}(hN:X.N.Nodup)(hi:X.N[i]?=some x)(hx:Loc X.env.scope x)(hf:X.fn x=true∨X.env.scope.names.lookup x=some .local:=by trivial):PG X (.Name x pos) (gName i):=by
 intro pins s σ H v u Q I r h
 exact wpAny_assign_Name (store_ok I hN hi hx r (fun s' I'=>⟨_,H,I',h⟩) hf)
noncomputable def gNil:TGs:=fun vs σ H Q=>vs=[]∧Q σ H
noncomputable def gCons(t:TG)(u:TGs):TGs:=fun vs σ H Q=>∃ v r,vs=v :: r∧t v σ H fun σ' H'=>u r σ' H' Q
theorem pgs_nil:PGs X [] gNil:=by
 intro pins s σ H vs us Q I r h
 obtain ⟨e,h⟩:=h
 subst e
 cases r
 exact assignInOrder_nil ⟨σ,H,I,h⟩
theorem pgs_cons{e:Expr}{es:List Expr}{t:TG}{u:TGs}(h1:PG X e t)(h2:PGs X es u)
  (hs:(assignEach (e :: es) X.env).map (·.2)=assign e X.env :: (assignEach es X.env).map (·.2):=by rfl):PGs X (e :: es) (gCons t u):=by
 intro pins s σ H vs us Q I r h
 obtain ⟨v,vr,e1,h⟩:=h
 subst e1
 cases r with
 |cons r rr =>
  rw [hs]
  refine assignInOrder_cons (thn (h1 pins s σ H _ _ _ I r h) fun _ s1 zz0=>?_)
  obtain ⟨σ1,H1,I1,q1⟩:=zz0
  exact h2 pins s1 σ1 H1 _ _ Q I1 rr q1
noncomputable def gTup(K:PySem.W.Frag)(n:Nat)(t:TGs):TG:=fun v σ H Q=>∃ a xs,v = .ref a∧SqT K H a xs∧xs.length=n∧t xs σ H Q
theorem pg_tup{es:List Expr}{k:Nat}{t:TGs}{n:Nat}(hc:X.calm=true)(h:PGs X es t)
  (hn:(assignEach es X.env).length=n:=by rfl) (hst:(assignEach es X.env).findIdx? (·.1)=none:=by rfl):PG X (.Tuple es k pos) (gTup X.K n t):=by
 intro pins s σ H v u Q I r hw
 obtain ⟨a,xs,e1,hq,hl,hw⟩:=hw
 subst e1
 cases r
 obtain ⟨its,rv,ht,hz⟩:=I.tuple hq
 refine assign_Tuple_tuple (I.ok.hd hc) ht (by simp [hn,← hl,rv.length]) hst fun h' hx=>?_
 have I1:Inv X pins σ H { s with heap:=h' }:=I.kept (t':=s.toks) fun b o e=>hx b o (Nat.ne_of_lt (Heap.lt_size e)) e
 exact h pins _ σ H xs _ Q I1 (by simpa using rv) hw
noncomputable def gSub(to ti:TE)(t:TSet):TG:=fun v σ H Q=>to σ H fun o H1=>ti σ H1 fun i H2=>t o i v H2 fun H3=>Q σ H3
theorem pg_sub{o i:Expr}{to ti:TE}{t:TSet}(ho:PE X o to)(hi:PE X i ti)(hs:PSet X t)
  (ha:∀ v,assign (.Subscript o i pos) X.env v=(do
   let ov ← holding [v] (eval o X.env)
   let iv ← holding [v,ov] (eval i X.env)
   standAt pos
   holding [v,ov,iv] (setItem ov iv v)
   release [v,ov,iv] []):=by intro _;rfl):PG X (.Subscript o i pos) (gSub to ti t):=by
 intro pins s σ H v u Q I r h
 rw [ha]
 refine wpAny_bind (wpAny_holding (thn (ho pins s σ H _ I h) fun ov s1 zz0=>?_))
 obtain ⟨x,H1,I1,r1,q1⟩:=zz0
 refine wpAny_bind (wpAny_holding (thn (hi pins s1 σ H1 _ I1 q1) fun iv s2 zz0=>?_))
 obtain ⟨y,H2,I2,r2,q2⟩:=zz0
 refine wpAny_bind (wpAny_standAt (wpAny_bind (wpAny_holding (thn (hs pins s2 σ H2 x y v ov iv u _ I2 r1 r2 r q2) fun _ s3 zz0=>?_))))
 obtain ⟨H3,I3,q3⟩:=zz0
 exact wpAny_release ⟨σ,H3,I3,q3⟩
noncomputable def tAsg(te:TE)(g:TG):TS:=fun D σ H=>te σ H fun x H1=>g x σ H1 D.nx
theorem ps_asg{tg e:Expr}{te:TE}{g:TG}(he:PE X e te)(hg:PG X tg g)(hs:swapsWithSole [tg] e pos.line X.env=pure false:=by rfl)(hw:swappedStores [tg] e X.env=pure none:=by rfl)
  (h1:(assignEach [tg] X.env).map (·.2)=[assign tg X.env]:=by rfl):PS X (.Assign [tg] e pos) (tAsg te g):=by
 intro pins s σ H D I h
 refine wpAny_Assign_stores (thn (he pins s σ H _ I h) fun v s1 ⟨x,H1,I1,r1,q1⟩=>?_) hs hw
 rw [h1]
 exact thn (hg pins s1 σ H1 x v _ I1 r1 q1) fun _ s2 q=>q
theorem ps_set{i:Nat}{x:Str}{e:Expr}{te:TE}{pos':Pos}(hN:X.N.Nodup)(hi:X.N[i]?=some x)(hx:Loc X.env.scope x)(he:PE X e te)(hs:swapsWith e (some (.Name x pos')) pos.line X.env=pure false:=by rfl)(hf:X.fn x=true∨X.env.scope.names.lookup x=some .local:=by trivial) :
  PS X (.Assign [.Name x pos'] e pos) (tAsg te (gName i)):=by
 intro pins s σ H D I h
 refine wpAny_Assign_Name (thn (he pins s σ H _ I h) fun v s1 zz0=>?_) hs
 obtain ⟨y,H1,I1,r1,q1⟩:=zz0
 exact store_ok I1 hN hi hx r1 (fun s2 I2=>⟨_,H1,I2,q1⟩) hf
noncomputable def tPar(i j:Nat)(ta:TA):TS:=fun D σ H=>ta σ H fun vs H1=>∃ v w,vs=[v,w]∧D.nx ((σ.set i (some v)).set j (some w)) H1
theorem ps_par{i j:Nat}{x y:Str}{a b:Expr}{ta:TA}{px py pt:Pos}{kt k2 pt2}(hc:X.calm=true)(hN:X.N.Nodup)(hi:X.N[i]?=some x)(hj:X.N[j]?=some y)(hij:i ≠ j)
  (hx:X.env.scope.names.lookup x=some .local) (hy:X.env.scope.names.lookup y=some .local) (ha:PA X [a,b] ta)
  (hw:swappedStores [.Tuple [.Name x px,.Name y py] kt pt] (.Tuple [a,b] k2 pt2) X.env=pure (some [x,y]))
  (hs:swapsWithSole [.Tuple [.Name x px,.Name y py] kt pt] (.Tuple [a,b] k2 pt2) pos.line X.env=pure false:=by rfl) :
  PS X (.Assign [.Tuple [.Name x px,.Name y py] kt pt] (.Tuple [a,b] k2 pt2) pos) (tPar i j ta):=by
 intro pins s σ H D I h
 rw [exec_Assign_arm]
 refine wpAny_bind (wpAny_standAt ?_)
 rw [hs]
 refine wpAny_bind (wpAny_pure ?_)
 rw [if_neg (by decide)]
 refine wpAny_bind (Tuple_ (thn (ha _ pins s σ H _ I h) fun us s1 zz0=>?_))
 obtain ⟨vs,H1,I1,r1,q1⟩:=zz0
 obtain ⟨v,w,e1,q1⟩:=q1
 subst e1
 obtain ⟨u1,u2,rfl,rv,rw'⟩:∃ u1 u2,us=[u1,u2]∧RelV v u1∧RelV w u2:=by
  cases r1 with
  |cons p q =>
   cases q with
   |cons p' q' =>
    cases q'
    exact ⟨_,_,rfl,p,p'⟩
 refine wpAny_newObj_type ?_ (by show 2 ≤ sizeLine;decide)
 have I2:Inv X pins σ H1 { s1 with heap:=s1.heap.push { cls:=.type "tuple",data:=.seq [u1,u2].toArray } }:=I1.kept (t':=s1.toks) fun b o e=>Heap.get?_push_of_some _ e
 rw [hw]
 refine wpAny_bind (wpAny_pure ?_)
 show wpAny (model X.prog X.w) X.A (do rule "assign.swapped-stores";let items ← unpackItems (.ref s1.heap.objs.size) 2 none;assignInOrder [fun v=>bindName X.env y v,fun v=>bindName X.env x v] items.reverse;pure Flow.next) _ _ _
 refine wpAny_bind (wpAny_rule (wpAny_bind (unpackItems_tuple (items:=#[u1,u2]) (I.ok.hd hc) (IsTup.new s1.heap _) fun h' hx'=>?_)))
 have I3:=I2.kept (h':=h') (t':=s1.toks) fun b o e=>hx' b o (Nat.ne_of_lt (Heap.lt_size e)) e
 show wpAny _ _ (assignInOrder [fun v=>bindName X.env y v,fun v=>bindName X.env x v] [u2,u1] >>= fun _=>pure Flow.next) _ _ _
 refine wpAny_bind (assignInOrder_cons (wpAny_bindName (store_ok I3 hN hj (.inl hy) rw' (fun s2 I4=>?_) (.inr hy))))
 refine assignInOrder_cons (wpAny_bindName (store_ok I4 hN hi (.inl hx) rv (fun s3 I5=>assignInOrder_nil (wpAny_pure ?_)) (.inr hx)))
 rw [List.set_comm _ _ (Ne.symm hij)] at I5
 exact ⟨_,H1,I5,q1⟩
end
section
variable {X:Cx} {pos:Pos}
noncomputable def tWhile(c:TT)(tb:TS):TS:=fun D σ H=>∃ W:Nat→St→Hp→Prop,(∃ m,W m σ H)∧∀ m σ H,W m σ H →
 c σ H fun b H1=>if b=true then ∃ N:St→Hp→Prop,(∀ σ' H',N σ' H'→∃ m',m' < m∧W m' σ' H')∧tb { D with nx:=N,ct:=N,bk:=D.nx } σ H1 else D.nx σ H1
theorem ps_while{c:Expr}{body:List Stmt}{tc:TT}{tb:TS}(hp:PassesOwn (model X.prog X.w) X.A X.env X.xe)(hc:PT X c tc)(hb:PSs X body tb):PS X (.While c body [] pos) (tWhile tc tb):=by
 intro pins s σ H D I h
 obtain ⟨W,⟨m0,w0⟩,turn⟩:=h
 refine wpAny_While (codeAny_whileLoop (fun n s'=>∃ σ' H',Inv X pins σ' H' s'∧W n σ' H') ?_ m0 ⟨σ,H,I,w0⟩)
 rintro n s1 ⟨σ1,H1,I1,w1⟩
 refine wpAny_passesOwn hp (thn (hc pins s1 σ1 H1 _ I1 (turn n σ1 H1 w1)) fun b s2 zz0=>?_)
 obtain ⟨H2,I2,q2⟩:=zz0
 cases b with
 |true =>
  obtain ⟨N,hN,q2⟩:=q2
  rw [if_pos rfl]
  refine wpAny_passesOwn hp (thn (hb pins s2 σ1 H2 _ I2 q2) fun f s3 q3=>?_)
  cases f with
  |next =>
   obtain ⟨σ3,H3,I3,n3⟩:=q3
   obtain ⟨m',hm,w3⟩:=hN σ3 H3 n3
   exact ⟨m',hm,σ3,H3,I3,w3⟩
  |cont =>
   obtain ⟨σ3,H3,I3,n3⟩:=q3
   obtain ⟨m',hm,w3⟩:=hN σ3 H3 n3
   exact ⟨m',hm,σ3,H3,I3,w3⟩
  |brk=>exact q3
  |ret v=>exact q3
 |false =>
  rw [if_neg Bool.false_ne_true]
  exact wpAny_execs_nil ⟨σ1,H2,I2,q2⟩
end
structure It where
 go:Nat→Hp→Prop
 yld:Nat→Hp→V→Hp→Prop
 stop:Nat→Hp→Prop
noncomputable def FpOk(X:Cx)(pins:List (Addr×Obj))(H:Hp)(b:Addr):Prop :=
 H b=none∧b ≠ X.env.locals∧b ∉ X.fs∧(b ∈ X.ex∨X.s₀.heap.objs.size ≤ b)∧(∀ x c,X.env.cells.lookup x=some c→c ≠ b)∧∀ p ∈ X.pn ++ pins,p.1 ≠ b
theorem Inv.fpOk{X:Cx}{pins:List (Addr×Obj)}{σ:St}{H H':Hp}{s:Shared}{b:Addr}(I:Inv X pins σ H s)(hb:s.heap.objs.size ≤ b)(hn:H' b=none):FpOk X pins H' b:=by
 refine ⟨hn,Nat.ne_of_gt (Nat.lt_of_lt_of_le I.lt hb),I.nofs hb,.inr (Nat.le_trans I.sz hb),fun x c e z=>?_,fun p hp z=>?_⟩
 ·obtain ⟨v,q⟩:=I.cell x c e
  exact absurd (Nat.lt_of_lt_of_le q.lt (by rw [z];exact hb)) (Nat.lt_irrefl _)
 ·exact absurd (Nat.lt_of_lt_of_le (Heap.lt_size (I.pin p hp).1) (by rw [z];exact hb)) (Nat.lt_irrefl _)
structure Turn(P:Program)(w:World)(K:PySem.W.Frag)(tg:Expr)(J:It)(fp:List Addr)(it:Addr)(tn:Nat→Heap→Prop):Prop where
 mem:it ∈ fp
 obj:∀ i h,tn i h→∀ b ∈ fp,∃ o,h.get? b=some o∧∀ v,o.data ≠ .cell v
 keep:∀ i h h',tn i h→(∀ b ∈ fp,∀ o,h.get? b=some o→h'.get? b=some o)→tn i h'
 item:∀ (X:Cx),X.prog=P→X.w=w→X.K=K→X.calm=true→∀ (i:Nat) (pins:List (Addr×Obj)) (s:Shared) (σ:St) (H:Hp) (E:Value→Shared→Prop),Inv X pins σ H s→(∀ b ∈ fp,FpOk X pins H b)→tn i s.heap→J.go i H →
  wpAny (model P w) X.A (pyNext (.ref it)) (fun r s1=>∃ u,r=some u ∧
   wpAny (model P w) X.A (letOwnedTupleGo tg (.ref it) u) (fun _ s2=>∃ x H',Inv X pins σ H' s2∧RelV x u∧J.yld i H x H'∧tn (i + 1) s2.heap∧∀ b ∈ fp,H' b=none) E s1) E s
 done:∀ (X:Cx),X.prog=P→X.w=w→X.K=K→X.calm=true→∀ (i:Nat) (pins:List (Addr×Obj)) (s:Shared) (σ:St) (H:Hp) (E:Value→Shared→Prop),Inv X pins σ H s→(∀ b ∈ fp,FpOk X pins H b)→tn i s.heap→J.stop i H →
  wpAny (model P w) X.A (pyNext (.ref it)) (fun r s1=>r=none∧Inv X pins σ H s1) E s
 self:∀ (A:Around) (i:Nat) (s:Shared) (Q:Value→Shared→Prop) (E:Value→Shared→Prop),tn i s.heap→Q (.ref it) s→wpAny (model P w) A (pyIter (.ref it)) Q E s
noncomputable abbrev TI:=St→Hp→(It→Hp→Prop)→Prop
noncomputable def PIE(X:Cx)(pins:List (Addr×Obj))(σ:St)(tg:Expr)(R:It→Hp→Prop)(itv:Value)(s2:Shared):Prop :=
 ∃ (it:Addr) (fp:List Addr) (tn:Nat→Heap→Prop) (J:It) (H':Hp),itv = .ref it∧Inv X pins σ H' s2∧Turn X.prog X.w X.K tg J fp it tn∧tn 0 s2.heap∧(∀ b ∈ fp,FpOk X pins H' b)∧R J H'
noncomputable def PI(X:Cx)(tg iter:Expr)(wi:TI):Prop :=
 ∀ (pins:List (Addr×Obj)) (s:Shared) (σ:St) (H:Hp) (R:It→Hp→Prop),Inv X pins σ H s→wi σ H R →
  wpAny (model X.prog X.w) X.A (eval iter X.env) (fun v s1=>wpAny (model X.prog X.w) X.A (pyIter v) (PIE X pins σ tg R) X.xe s1) X.xe s
theorem go_of{M:Model}{A:Around}{E:Value→Shared→Prop}{s:Shared}{tg:Expr}{it:Addr}{u:Value}{o:Obj}{n:String}{vs:Array Value}{Q:Unit→Shared→Prop}(ho:s.heap.get? it=some o)(hc:o.cls = .type n)(hd:o.data = .fields vs)
  (hn:["enumerate","zip","dict_itemiterator","dict_reverseitemiterator","odict_iterator","itertools.zip_longest","itertools.pairwise"].contains n=false) (hQ:Q () s):wpAny M A (letOwnedTupleGo tg (.ref it) u) Q E s:=by
 unfold letOwnedTupleGo
 cases tg <;> first
  |exact wpAny_pure hQ
  |(cases u <;> first
    |exact wpAny_pure hQ
    |(refine wpAny_bind (wpAny_load ho ?_)
      rw [hc,hd]
      show wpAny M A (if (["enumerate","zip","dict_itemiterator","dict_reverseitemiterator","odict_iterator","itertools.zip_longest","itertools.pairwise"].contains n && vs[0]? == some (rawInt _))=true then _ else _) Q E s
      rw [if_neg (by intro h;rw [hn,Bool.false_and] at h;cases h)]
      exact wpAny_pure hQ))
noncomputable def Itl(K:PySem.W.Frag)(a:Addr):It :=
 ⟨fun i H=>∃ xs x,SqL K H a xs∧xs[i]?=some x,fun i H x H'=>H'=H∧∀ xs,SqL K H a xs→xs[i]?=some x,fun i H=>∃ xs,SqL K H a xs∧xs.length ≤ i⟩
noncomputable def Itt(K:PySem.W.Frag)(a:Addr):It :=
 ⟨fun i H=>∃ xs x,SqT K H a xs∧xs[i]?=some x,fun i H x H'=>H'=H∧∀ xs,SqT K H a xs→xs[i]?=some x,fun i H=>∃ xs,SqT K H a xs∧xs.length ≤ i⟩
noncomputable def Itr(lo:Int)(n:Nat):It:=⟨fun i _=>i < n,fun i H x H'=>H'=H∧x = .int (lo + i),fun i _=>n ≤ i⟩
theorem turn_list{P:Program}{w:World}{K:PySem.W.Frag}{tg:Expr}(a it:Addr):Turn P w K tg (Itl K a) [it] it (fun i h=>h.IsListIter it a i) where
 mem:=by simp
 obj:=fun i h st b hb=>by
  have e:b=it:=by simpa using hb
  subst e
  obtain ⟨o,e,c,d⟩:=st
  exact ⟨o,e,fun v z=>by rw [d] at z;cases z⟩
 keep:=fun i h h' st k=>st.at fun o e=>k it (by simp) o e
 item:=by
  intro X hP hw hK hc i pins s σ H E I hf st hg
  subst hP hw hK
  obtain ⟨xs,x,hq,hx⟩:=hg
  obtain ⟨its,rv,p,hz⟩:=I.list hq
  obtain ⟨u,hu,ru⟩:=rv.get hx
  obtain ⟨f0,f1,f2,f3,f4,f5⟩:=hf it (by simp)
  refine wpAny_pyNext_list_item st p.isList (x:=u) (by simpa using hu) fun h' st' sb=>?_
  have I1:Inv X pins σ H { s with heap:=h' }:=I.turned (t':=s.toks) (fun b o hb e=>(sb.2 b hb).trans e) f0 f1 f3 f4 f5
  obtain ⟨o,e,c,d⟩:=id st'
  exact ⟨u,rfl,go_of (s:={ s with heap:=h' }) e c d (by decide) ⟨x,H,I1,ru,⟨rfl,fun ys hy=>by rw [I.list_inj hy hq];exact hx⟩,st',fun b hb=>(hf b hb).1⟩⟩
 done:=by
  intro X hP hw hK hc i pins s σ H E I hf st hg
  subst hP hw hK
  obtain ⟨xs,hq,hx⟩:=hg
  obtain ⟨its,rv,p,hz⟩:=I.list hq
  obtain ⟨f0,f1,f2,f3,f4,f5⟩:=hf it (by simp)
  have hl:=rv.length
  exact wpAny_pyNext_list_end (I.ok.hd hc) st p.isList (by simp;omega) fun h' eb=>⟨rfl,I.turned (t':=s.toks) (fun b o hb e=>eb b o hb e) f0 f1 f3 f4 f5⟩
 self:=fun _ _ _ _ _ st h=>wpAny_pyIter_listiter st h
theorem turn_tuple{P:Program}{w:World}{K:PySem.W.Frag}{tg:Expr}(a it:Addr):Turn P w K tg (Itt K a) [it] it (fun i h=>h.IsTupleIter it a i) where
 mem:=by simp
 obj:=fun i h st b hb=>by
  have e:b=it:=by simpa using hb
  subst e
  obtain ⟨o,e,c,d⟩:=st
  exact ⟨o,e,fun v z=>by rw [d] at z;cases z⟩
 keep:=fun i h h' st k=>st.at fun o e=>k it (by simp) o e
 item:=by
  intro X hP hw hK hc i pins s σ H E I hf st hg
  subst hP hw hK
  obtain ⟨xs,x,hq,hx⟩:=hg
  obtain ⟨its,rv,p,hz⟩:=I.tuple hq
  obtain ⟨u,hu,ru⟩:=rv.get hx
  obtain ⟨f0,f1,f2,f3,f4,f5⟩:=hf it (by simp)
  refine wpAny_pyNext_tuple_item st (show s.heap.IsTuple a its.toArray from p) (x:=u) (by simpa using hu) fun h' st' sb=>?_
  have I1:Inv X pins σ H { s with heap:=h' }:=I.turned (t':=s.toks) (fun b o hb e=>(sb.2 b hb).trans e) f0 f1 f3 f4 f5
  obtain ⟨o,e,c,d⟩:=id st'
  exact ⟨u,rfl,go_of (s:={ s with heap:=h' }) e c d (by decide) ⟨x,H,I1,ru,⟨rfl,fun ys hy=>by rw [I.tuple_inj hy hq];exact hx⟩,st',fun b hb=>(hf b hb).1⟩⟩
 done:=by
  intro X hP hw hK hc i pins s σ H E I hf st hg
  subst hP hw hK
  obtain ⟨xs,hq,hx⟩:=hg
  obtain ⟨its,rv,p,hz⟩:=I.tuple hq
  obtain ⟨f0,f1,f2,f3,f4,f5⟩:=hf it (by simp)
  have hl:=rv.length
  exact wpAny_pyNext_tuple_end (I.ok.hd hc) st (show s.heap.IsTuple a its.toArray from p) (by simp;omega) fun h' eb=>⟨rfl,I.turned (t':=s.toks) (fun b o hb e=>eb b o hb e) f0 f1 f3 f4 f5⟩
 self:=fun _ _ _ _ _ st h=>wpAny_pyIter_tupleiter st h
theorem turn_range{P:Program}{w:World}{K:PySem.W.Frag}{tg:Expr}(it:Addr)(lo:Int)(n:Nat):Turn P w K tg (Itr lo n) [it] it (fun i h=>IsRangeIter h it (lo + (i:Nat) * 1) ((n:Int) - (i:Nat)) 1) where
 mem:=by simp
 obj:=fun i h st b hb=>by
  have e:b=it:=by simpa using hb
  subst e
  exact ⟨_,st,fun v z=>by
   have z':Data.fields _=Data.cell v:=z
   cases z'⟩
 keep:=fun i h h' st k=>k it (by simp) _ st
 item:=by
  intro X hP hw hK hc i pins s σ H E I hf st hg
  subst hP hw hK
  obtain ⟨f0,f1,f2,f3,f4,f5⟩:=hf it (by simp)
  have W:=Walks.range (prog:=X.prog) (w:=X.w) (I.ok.hd hc) it lo 1 n
  refine W.item i s _ _ hg st fun v h' tk hv st' kk=>?_
  obtain ⟨t,rfl⟩:=hv
  have I1:Inv X pins σ H { s with heap:=h',toks:=tk }:=I.turned (fun b o hb e=>kk b o (by simpa using hb) e) f0 f1 f3 f4 f5
  refine ⟨_,rfl,go_of (s:={ s with heap:=h',toks:=tk }) (n:= "range_iterator") st' rfl rfl (by decide) ⟨.int (lo + i),H,I1,⟨t,?_⟩,⟨rfl,rfl⟩,st',fun b hb=>(hf b hb).1⟩⟩
  rw [Int.mul_one]
 done:=by
  intro X hP hw hK hc i pins s σ H E I hf st hg
  subst hP hw hK
  obtain ⟨f0,f1,f2,f3,f4,f5⟩:=hf it (by simp)
  exact wpAny_pyNext_range_end (I.ok.hd hc) st (by have:n ≤ i:=hg;omega) fun h' eb=>⟨rfl,I.turned (t':=s.toks) (fun b o hb e=>eb b o hb e) f0 f1 f3 f4 f5⟩
 self:=fun _ _ _ _ _ st h=>wpAny_pyIter_rangeiter st h
end L2
namespace L2
open PySem PySem.Spec PyProof.Rows
section
variable {X:Cx} {tg:Expr}
theorem range_it{pins:List (Addr×Obj)}{σ:St}{H:Hp}{s:Shared}{R:It→Hp→Prop}{E:Value→Shared→Prop}{lo hi:Int}{t u v:Tok}{tk:Nat}(I:Inv X pins σ H s)(h1:-(2 ^ 62) ≤ lo)(h2:lo < 2 ^ 62)(h3:-(2 ^ 62) ≤ hi)(h4:hi < 2 ^ 62)
  (q:R (Itr lo (hi - lo).toNat) H):wpAny (model X.prog X.w) X.A (pyIter (.ref s.heap.objs.size)) (PIE X pins σ tg R) E { s with heap:=s.heap.push { cls:=.type "range",data:=.fields #[.int lo t,.int hi u,.int 1 v] },toks:=tk }:=by
 refine wpAny_pyIter_range (IsRange.new ..) (small_one h1 h2 h3 h4) ?_
 have I1:Inv X pins σ H { s with heap:=s.heap.push { cls:=.type "range",data:=.fields #[.int lo t,.int hi u,.int 1 v] },toks:=tk }:=I.kept fun b o e=>Heap.get?_push_of_some _ e
 refine ⟨(s.heap.push { cls:=.type "range",data:=.fields #[.int lo t,.int hi u,.int 1 v] }).objs.size,[(s.heap.push { cls:=.type "range",data:=.fields #[.int lo t,.int hi u,.int 1 v] }).objs.size],_,_,H,rfl,
  I1.kept (t':=tk) fun b o e=>Heap.get?_push_of_some _ e,turn_range _ lo (hi - lo).toNat,?_,fun b hb=>?_,q⟩
 ·have e1:lo + ((0:Nat):Int) * 1=lo:=by simp
  have e2:(((hi - lo).toNat:Nat):Int) - ((0:Nat):Int)=Builtin.Range.rangeSize lo hi 1:=by rw [rangeSize_one];split <;> omega
  show IsRangeIter _ _ (lo + ((0:Nat):Int) * 1) ((((hi - lo).toNat:Nat):Int) - ((0:Nat):Int)) 1
  rw [e1,e2]
  exact Heap.get?_push_size _ rfl
 ·have e:b=(s.heap.push { cls:=.type "range",data:=.fields #[.int lo t,.int hi u,.int 1 v] }).objs.size:=by simpa using hb
  subst e
  exact I1.fpOk (Nat.le_refl _) (I1.hok.fresh (Nat.le_refl _))
noncomputable def iRng1(ta:TA):TI:=fun σ H R=>ta σ H fun vs H1=>∃ j:Int,vs=[.int j]∧-(2 ^ 62) ≤ j∧j < 2 ^ 62∧R (Itr 0 j.toNat) H1
theorem pi_range1{a:Expr}{ta:TA}{p pos:Pos}(hg:Gl X "range")(hm:X.mg "range" = none)(ha:PA X [a] ta)(hs:starEach [a] X.env=[(false,eval a X.env)]:=by rfl):PI X tg (.Call (.Name "range" p) [a] [] pos) (iRng1 ta):=by
 intro pins s σ H R I h
 refine Call_ (ld_blt I hg hm boot_range (PyProof.Rows.callWith_type1 (thn (ha pos pins s σ H _ I h) fun us s1 ⟨vs,H1,I1,r1,q1⟩=>?_) hs rfl))
 obtain ⟨j,e,q1,q2,q⟩:=q1
 subst e
 cases r1 with
 |cons r rr =>
  cases rr
  obtain ⟨t,rfl⟩:=r
  exact call_range_1 (range_it I1 (by omega) (by omega) q1 q2 (by simpa using q))
noncomputable def tFor(wi:TI)(g:TG)(tb:TS):TS:=fun D σ H=>wi σ H fun J H1=>∃ W:Nat→Nat→St→Hp→Prop,(∃ m,W 0 m σ H1)∧∀ i m σ H,W i m σ H →
 (J.stop i H∧D.nx σ H)∨(J.go i H∧∃ N:St→Hp→Prop,(∀ σ' H',N σ' H'→∃ m',m' < m∧W (i + 1) m' σ' H')∧∀ x H',J.yld i H x H'→g x σ H' fun σ2 H2=>tb { D with nx:=N,ct:=N,bk:=D.nx } σ2 H2)
noncomputable def pinsAt(fp:List Addr)(h:Heap):List (Addr×Obj):=fp.filterMap fun b=>(h.get? b).map fun o=>(b,o)
theorem mem_pinsAt{fp:List Addr}{h:Heap}{b:Addr}{o:Obj}(hb:b ∈ fp)(e:h.get? b=some o):(b,o) ∈ pinsAt fp h:=List.mem_filterMap.mpr ⟨b,hb,by rw [e];rfl⟩
theorem of_pinsAt{fp:List Addr}{h:Heap}{p:Addr×Obj}(hp:p ∈ pinsAt fp h):p.1 ∈ fp∧h.get? p.1=some p.2:=by
 obtain ⟨b,hb,e⟩:=List.mem_filterMap.mp hp
 cases q:h.get? b with
 |none=>rw [q] at e;cases e
 |some o =>
  rw [q] at e
  have e':(b,o)=p:=Option.some.inj e
  subst e'
  exact ⟨hb,q⟩
theorem Inv.pinned{pins:List (Addr×Obj)}{σ:St}{H:Hp}{s:Shared}{fp:List Addr}(I:Inv X pins σ H s)(hf:∀ b ∈ fp,FpOk X pins H b)(ho:∀ b ∈ fp,∃ o,s.heap.get? b=some o∧∀ v,o.data ≠ .cell v):Inv X (pins ++ pinsAt fp s.heap) σ H s :=
 I.pins_of fun p hp=>(List.mem_append.mp hp).elim (fun z=>I.pin p (List.mem_append_right _ z)) fun z=>by
  obtain ⟨hb,e⟩:=of_pinsAt z
  obtain ⟨f0,f1,f2,_⟩:=hf p.1 hb
  obtain ⟨o,e',d⟩:=ho p.1 hb
  rw [e] at e';cases e'
  exact ⟨e,f0,f1,f2,d⟩
theorem Inv.unpinned{pins pl:List (Addr×Obj)}{σ:St}{H:Hp}{s:Shared}(I:Inv X (pins ++ pl) σ H s):Inv X pins σ H s:=I.pins_of fun p hp=>I.pin p (List.mem_append_right _ (List.mem_append_left _ hp))
theorem ps_for{iter:Expr}{body:List Stmt}{wi:TI}{g:TG}{tb:TS}{pos:Pos}(hp:PassesOwn (model X.prog X.w) X.A X.env X.xe)(hc:X.calm=true)(hi:PI X tg iter wi)(hg:PG X tg g)(hb:PSs X body tb)
  (hs:∀ x,foldedSetIterable iter X.env x=pure x:=by intro _;rfl):PS X (.For tg iter body [] pos) (tFor wi g tb):=by
 intro pins s σ H D I h
 refine wpAny_For (thn (hi pins s σ H _ I h) fun v s1 h1=>thn h1 fun itv s2 h2=>?_) hs
 obtain ⟨it,fp,tn,J,H2,e,I2,T,st2,f2,W,⟨m0,w0⟩,turn⟩:=h2
 subst e
 have stat:∀ {H':Hp},(∀ b ∈ fp,H' b=none)→∀ b ∈ fp,FpOk X pins H' b:=fun hn b hb=>⟨hn b hb,(f2 b hb).2⟩
 refine codeAny_forLoop_any (fun n s'=>∃ i σ' H',Inv X pins σ' H' s'∧tn i s'.heap∧(∀ b ∈ fp,H' b=none)∧W i n σ' H') ?_ m0 ⟨0,σ,H2,I2,st2,fun b hb=>(f2 b hb).1,w0⟩
 rintro n s3 ⟨i,σ3,H3,I3,st3,fr3,w3⟩
 rcases turn i n σ3 H3 w3 with ⟨stop,qn⟩ | ⟨go,N,hN,step⟩
 ·refine wpAny_passesOwn hp (thn (T.done X rfl rfl rfl hc i pins s3 σ3 H3 X.xe I3 (stat fr3) st3 stop) fun r s4 zz0=>?_)
  obtain ⟨hr,I4⟩:=zz0
  subst hr
  exact wpAny_execs_nil ⟨σ3,H3,I4,qn⟩
 ·refine wpAny_passesOwn hp (thn (T.item X rfl rfl rfl hc i pins s3 σ3 H3 X.xe I3 (stat fr3) st3 go) fun r s4 zz0=>?_)
  obtain ⟨u,hr,h4⟩:=zz0
  subst hr
  refine wpAny_passesOwn hp (thn h4 fun _ s5 zz0=>?_)
  obtain ⟨x,H5,I5,r5,y5,st5,fr5⟩:=zz0
  have I5':=I5.pinned (stat fr5) (T.obj _ _ st5)
  refine wpAny_passesOwn hp (thn (hg _ s5 σ3 H5 x u _ I5' r5 (step x H5 y5)) fun _ s6 zz0=>?_)
  obtain ⟨σ6,H6,I6,q6⟩:=zz0
  refine wpAny_passesOwn hp (thn (hb _ s6 σ6 H6 _ I6 q6) fun f s7 q7=>?_)
  have again:∀ {σ7:St} {H7:Hp},Inv X (pins ++ pinsAt fp s5.heap) σ7 H7 s7→N σ7 H7→∃ m,m < n∧∃ i σ' H',Inv X pins σ' H' s7∧tn i s7.heap∧(∀ b ∈ fp,H' b=none)∧W i m σ' H':=fun {σ7 H7} I7 n7=>by
   obtain ⟨m',hm,w7⟩:=hN σ7 H7 n7
   refine ⟨m',hm,i + 1,σ7,H7,I7.unpinned,T.keep _ _ _ st5 fun b hb o e=>(I7.pin (b,o) (List.mem_append_right _ (List.mem_append_right _ (mem_pinsAt hb e)))).1,fun b hb=>?_,w7⟩
   obtain ⟨o,e,d⟩:=T.obj _ _ st5 b hb
   exact (I7.pin (b,o) (List.mem_append_right _ (List.mem_append_right _ (mem_pinsAt hb e)))).2.1
  cases f with
  |next=>obtain ⟨σ7,H7,I7,n7⟩:=q7;exact again I7 n7
  |cont=>obtain ⟨σ7,H7,I7,n7⟩:=q7;exact again I7 n7
  |brk=>obtain ⟨σ7,H7,I7,q7⟩:=q7;exact ⟨σ7,H7,I7.unpinned,q7⟩
  |ret v=>obtain ⟨x7,σ7,H7,I7,r7,q7⟩:=q7;exact ⟨x7,σ7,H7,I7.unpinned,r7,q7⟩
end
end L2
namespace L2
open PySem PySem.Spec PyProof.Rows
noncomputable abbrev R2:=V→V→Hp→VK→Prop
noncomputable def OpR(X:Cx)(f:Value→Value→Sem Value)(r:R2):Prop :=
 ∀ (pins:List (Addr×Obj)) (s:Shared) (σ:St) (H:Hp) (x y:V) (v u:Value) (Q:VK),Inv X pins σ H s→RelV x v→RelV y u→r x y H Q →
  wpAny (model X.prog X.w) X.A (f v u) (EP X pins σ Q) X.xe s
noncomputable def UnR(X:Cx)(f:Value→Sem Value)(r:V→Hp→VK→Prop):Prop :=
 ∀ (pins:List (Addr×Obj)) (s:Shared) (σ:St) (H:Hp) (x:V) (v:Value) (Q:VK),Inv X pins σ H s→RelV x v→r x H Q →
  wpAny (model X.prog X.w) X.A (f v) (EP X pins σ Q) X.xe s
noncomputable def CallR(X:Cx)(f:Value)(r:List V→Hp→VK→Prop):Prop :=
 ∀ (pins:List (Addr×Obj)) (s:Shared) (σ:St) (H:Hp) (xs:List V) (us:List Value) (Q:VK),Inv X pins σ H s→Vals xs us→r xs H Q →
  wpAny (model X.prog X.w) X.A (call f us) (EP X pins σ Q) X.xe s
noncomputable def TruR(X:Cx)(r:V→Hp→(Bool→Hp→Prop)→Prop):Prop :=
 ∀ (pins:List (Addr×Obj)) (s:Shared) (σ:St) (H:Hp) (x:V) (v:Value) (Q:Bool→Hp→Prop),Inv X pins σ H s→RelV x v→r x H Q →
  wpAny (model X.prog X.w) X.A (truthy v) (TP X pins σ Q) X.xe s
noncomputable def tOp(r:R2)(ta tb:TE):TE:=fun σ H Q=>ta σ H fun x H1=>tb σ H1 fun y H2=>r x y H2 Q
noncomputable def tUn(r:V→Hp→VK→Prop)(ta:TE):TE:=fun σ H Q=>ta σ H fun x H1=>r x H1 Q
noncomputable def rI(C:Int→Int→Prop)(g:Int→Int→V):R2:=fun x y H Q=>∃ i j,x = .int i∧y = .int j∧C i j∧Q (g i j) H
noncomputable def rI0(g:Int→Int→V):R2:=fun x y H Q=>∃ i j,x = .int i∧y = .int j∧Q (g i j) H
noncomputable def rU(g:Int→V):V→Hp→VK→Prop:=fun x H Q=>∃ i,x = .int i∧Q (g i) H
section
variable {X:Cx} {a b c:Expr} {ta tb tc:TE} {pos:Pos}
theorem binT(ha:PE X a ta)(hb:PE X b tb){pins:List (Addr×Obj)}{s:Shared}{σ:St}{H:Hp}{R:V→V→Hp→Prop}(I:Inv X pins σ H s)
  (h:ta σ H fun x H1=>tb σ H1 fun y H2=>R x y H2) {Q:Value→Shared→Prop} {f:Value→Value→Sem Value}
  (hf:∀ v u s2 x y H2,Inv X pins σ H2 s2→RelV x v→RelV y u→R x y H2→wpAny (model X.prog X.w) X.A (f v u) Q X.xe s2) :
  wpAny (model X.prog X.w) X.A (eval a X.env) (fun v s₁=>wpAny (model X.prog X.w) X.A (eval b X.env) (fun u s₂=>wpAny (model X.prog X.w) X.A (f v u) Q X.xe s₂) X.xe s₁) X.xe s:=by
 refine thn (ha pins s σ H _ I h) fun v s1 zz0=>?_
 obtain ⟨x,H1,I1,r1,q1⟩:=zz0
 refine thn (hb pins s1 σ H1 _ I1 q1) fun u s2 zz0=>?_
 obtain ⟨y,H2,I2,r2,q2⟩:=zz0
 exact hf v u s2 x y H2 I2 r1 r2 q2
theorem pe_op{op:Operator}{r:R2}(ho:OpR X (binaryOp op) r)(ha:PE X a ta)(hb:PE X b tb):PE X (.BinOp a op b pos) (tOp r ta tb):=by
 intro pins s σ H Q I h
 exact wpAny_BinOp (binT ha hb I h fun v u s2 x y H2 I2 rx ry q=>ho pins s2 σ H2 x y v u Q I2 rx ry q)
theorem pe_un{op:UnaryOp}{r:V→Hp→VK→Prop}(ho:UnR X (unaryOp op) r)(ha:PE X a ta):PE X (.UnaryOp op a pos) (tUn r ta):=by
 intro pins s σ H Q I h
 exact UnaryOp_ (thn (ha pins s σ H _ I h) fun v s1 ⟨x,H1,I1,r1,q1⟩=>ho pins s1 σ H1 x v Q I1 r1 q1)
theorem opI{f:Value→Value→Sem Value}{C:Int→Int→Prop}{g:Int→Int→Int}
  (rule:∀ (i j:Int) (t u:Tok) (s:Shared) (Q:Value→Shared→Prop) (E:Value→Shared→Prop),C i j→Q (.int (g i j) s.toks) { s with toks:=s.toks + 1 }→wpAny (model X.prog X.w) X.A (f (.int i t) (.int j u)) Q E s) :
  OpR X f (rI C fun i j=>.int (g i j)):=by
 intro pins s σ H x y v u Q I rx ry h
 obtain ⟨i,j,rfl,rfl,hc,q⟩:=h
 obtain ⟨t,rfl⟩:=rx
 obtain ⟨t',rfl⟩:=ry
 exact rule i j t t' s _ _ hc ⟨.int (g i j),H,I.tok _,⟨_,rfl⟩,q⟩
theorem opI0{f:Value→Value→Sem Value}{g:Int→Int→Int}
  (rule:∀ (i j:Int) (t u:Tok) (s:Shared) (Q:Value→Shared→Prop) (E:Value→Shared→Prop),Q (.int (g i j) s.toks) { s with toks:=s.toks + 1 }→wpAny (model X.prog X.w) X.A (f (.int i t) (.int j u)) Q E s) :
  OpR X f (rI0 fun i j=>.int (g i j)):=by
 intro pins s σ H x y v u Q I rx ry h
 obtain ⟨i,j,rfl,rfl,q⟩:=h
 obtain ⟨t,rfl⟩:=rx
 obtain ⟨t',rfl⟩:=ry
 exact rule i j t t' s _ _ ⟨.int (g i j),H,I.tok _,⟨_,rfl⟩,q⟩
theorem opB0{f:Value→Value→Sem Value}{g:Int→Int→Bool}
  (rule:∀ (i j:Int) (t u:Tok) (s:Shared) (Q:Value→Shared→Prop) (E:Value→Shared→Prop),Q (.bool (g i j)) s→wpAny (model X.prog X.w) X.A (f (.int i t) (.int j u)) Q E s) :
  OpR X f (rI0 fun i j=>.bl (g i j)):=by
 intro pins s σ H x y v u Q I rx ry h
 obtain ⟨i,j,rfl,rfl,q⟩:=h
 obtain ⟨t,rfl⟩:=rx
 obtain ⟨t',rfl⟩:=ry
 exact rule i j t t' s _ _ ⟨.bl (g i j),H,I,rfl,q⟩
noncomputable def CPow(i j:Int):Prop:=0 ≤ j∧j ≤ 1000000∧i.natAbs < 2 ^ 64
theorem two_pow_nn(k:Nat):(0:Int) ≤ 2 ^ k:=by
 rw [two_pow_cast]
 exact Int.natCast_nonneg _
theorem op_add:OpR X (binaryOp .Add) (rI0 fun i j=>.int (i + j)):=opI0 fun _ _ _ _ _ _ _ q=>add_int q
theorem op_sub:OpR X (binaryOp .Sub) (rI0 fun i j=>.int (i - j)):=opI0 fun _ _ _ _ _ _ _ q=>sub_int q
theorem op_mod:OpR X (binaryOp .Mod) (rI (fun _ j=>0 < j) fun i j=>.int (i % j)):=opI fun i j _ _ _ _ _ hc q=>by
 have h1:(0:Int) < j:=hc
 exact mod_int' (by omega) (by rw [Int.fmod_eq_emod_of_nonneg i (by omega)];exact q)
theorem op_pow:OpR X (binaryOp .Pow) (rI CPow fun i j=>.int (i ^ j.toNat)):=opI fun _ _ _ _ _ _ _ hc q=>pow_int_small hc.1 hc.2.1 hc.2.2 q
theorem op_shl:OpR X (binaryOp .LShift) (rI CPow fun i j=>.int (i * 2 ^ j.toNat)):=opI fun _ _ _ _ _ _ _ hc q=>lshift_int_small hc.1 hc.2.1 hc.2.2 q
theorem op_shr:OpR X (binaryOp .RShift) (rI (fun _ j=>0 ≤ j) fun i j=>.int (i / 2 ^ j.toNat)):=opI fun i j _ _ _ _ _ hc q =>
 rshift_int hc (by rw [Int.fdiv_eq_ediv_of_nonneg i (two_pow_nn _)];exact q)
theorem op_and:OpR X (binaryOp .BitAnd) (rI0 fun i j=>.int (Builtin.bitAnd i j)):=opI0 fun _ _ _ _ _ _ _ q=>and_int q
theorem op_or:OpR X (binaryOp .BitOr) (rI0 fun i j=>.int (Builtin.bitOr i j)):=opI0 fun _ _ _ _ _ _ _ q=>or_int q
theorem unI{f:Value→Sem Value}{g:Int→Int}
  (rule:∀ (i:Int) (t:Tok) (s:Shared) (Q:Value→Shared→Prop) (E:Value→Shared→Prop),Q (.int (g i) s.toks) { s with toks:=s.toks + 1 }→wpAny (model X.prog X.w) X.A (f (.int i t)) Q E s) :
  UnR X f (rU fun i=>.int (g i)):=by
 intro pins s σ H x v Q I rx h
 obtain ⟨i,rfl,q⟩:=h
 obtain ⟨t,rfl⟩:=rx
 exact rule i t s _ _ ⟨.int (g i),H,I.tok _,⟨_,rfl⟩,q⟩
theorem un_neg:UnR X (unaryOp .USub) (rU fun i=>.int (-i)):=unI fun _ _ _ _ _ q=>neg_int q
end
section
variable {X:Cx} {a b c:Expr} {ta tb tc:TE} {pos:Pos}
theorem fin_bl{pins:List (Addr×Obj)}{σ:St}{H:Hp}{s:Shared}{Q:VK}{k k':Bool}(I:Inv X pins σ H s)(q:Q (.bl k) H)(e:k=k'):EP X pins σ Q (.bool k') s:=by
 subst e
 exact ⟨.bl k,H,I,rfl,q⟩
theorem op_lt:OpR X (compareOp .Lt) (rI0 fun i j=>.bl (decide (i < j))):=opB0 fun _ _ _ _ _ _ _ q=>lt_int q
theorem op_le:OpR X (compareOp .LtE) (rI0 fun i j=>.bl (decide (i ≤ j))):=opB0 fun _ _ _ _ _ _ _ q=>le_int q
theorem op_gt:OpR X (compareOp .Gt) (rI0 fun i j=>.bl (decide (j < i))):=opB0 fun _ _ _ _ _ _ _ q=>gt_int q
theorem op_notN:OpR X (compareOp .IsNot) (fun x y H Q=>y = .non∧Q (.bl (!decide (x = .non))) H):=by
 intro pins s σ H x y v u Q I rx ry h
 obtain ⟨rfl,q⟩:=h
 cases ry
 refine isnot_none_gen (fin_bl I q ?_)
 cases x <;> first
  |(cases rx;rfl)
  |(obtain ⟨t,rfl⟩:=rx;rfl)
theorem OpR.or{f:Value→Value→Sem Value}{r r':R2}(h:OpR X f r)(h':OpR X f r'):OpR X f (fun x y H Q=>r x y H Q∨r' x y H Q):=by
 intro pins s σ H x y v u Q I rx ry q
 rcases q with q | q
 ·exact h pins s σ H x y v u Q I rx ry q
 ·exact h' pins s σ H x y v u Q I rx ry q
theorem nomark(b:Expr){op:CmpOp}(h:op ≠ .In:=by decide)(h2:op ≠ .NotIn:=by decide):behindInMarks op b=false:=by
 have e1:(op == CmpOp.In)=false:=by cases op <;> first | rfl | exact absurd rfl h
 have e2:(op == CmpOp.NotIn)=false:=by cases op <;> first | rfl | exact absurd rfl h2
 cases b with
 |Set elts k p =>
  show (k == 0 && (op == .In || op == .NotIn) && elts.all (constantsAlone 8))=false
  rw [e1,e2]
  cases k == 0 <;> rfl
 |_=>rfl
theorem pe_cmpR{op:CmpOp}{r:R2}(ho:OpR X (compareOp op) r)(ha:PE X a ta)(hb:PE X b tb)(hm:behindInMarks op b=false):PE X (.Compare a [op] [b] pos) (tOp r ta tb):=by
 intro pins s σ H Q I h
 exact wpAny_Compare1 (binT ha hb I h fun v u s2 x y H2 I2 rx ry q=>ho pins s2 σ H2 x y v u Q I2 rx ry q) hm
noncomputable def tTest(t:TE):TT:=fun σ H Q=>t σ H fun x H'=>∃ k,x = .bl k∧Q k H'
theorem pt_cmpR{op:CmpOp}{r:R2}(ho:OpR X (compareOp op) r)(ha:PE X a ta)(hb:PE X b tb)(hm:behindInMarks op b=false):PT X (.Compare a [op] [b] pos) (tTest (tOp r ta tb)):=by
 intro pins s σ H Q I h
 refine wpAny_isTrue_Compare1 (thn (ha pins s σ H _ I h) fun v s1 ⟨x,H1,I1,r1,q1⟩=>thn (hb pins s1 σ H1 _ I1 q1) fun u s2 ⟨y,H2,I2,r2,q2⟩ =>
  thn (ho pins s2 σ H2 x y v u _ I2 r1 r2 q2) fun c s3 ⟨z,H3,I3,r3,k,e,q3⟩=>?_) hm
 subst e
 cases r3
 exact wpAny_truthy_bool ⟨H3,I3,q3⟩
noncomputable def TruV(K:PySem.W.Frag)(x:V)(H:Hp)(k:Bool):Prop :=
 match x with
 |.non=>k=false
 |.bl b=>k=b
 |.int i=>k=(i != 0)
 |.str y=>y.length ≤ sizeLine∧k=((y.length:Int) != 0)
 |.byt y=>y.size ≤ sizeLine∧k=((y.size:Int) != 0)
 |.ref p=>(∃ xs,SqL K H p xs∧k = !xs.isEmpty)∨(∃ xs,SqT K H p xs∧k = !xs.isEmpty)∨∃ kvs,H p=some (.dK kvs)∧k = !kvs.isEmpty
 |_=>False
theorem isEmpty_kv{κ:Type}{kvs:List (κ×V)}{vs:List (κ×Value)}(r:KV kvs vs):(!vs.isEmpty) = !kvs.isEmpty:=by
 cases r <;> rfl
theorem isEmpty_of{xs:List V}{its:List Value}(r:Vals xs its):(!its.toArray.isEmpty) = !xs.isEmpty:=by
 cases r <;> simp
theorem line63:(sizeLine:Nat) < 2 ^ 63:=by rw [sizeLine_eq];decide
theorem tru_ok:TruR X (fun x H Q=>∃ k,TruV X.K x H k∧Q k H):=by
 intro pins s σ H x v Q I rx h
 obtain ⟨k,e,q⟩:=h
 have hl:=line63
 have hs:sizeLine=16777216:=sizeLine_eq
 cases x with
 |non =>
  cases rx
  have e':k=false:=e
  subst e'
  exact truthy_none ⟨H,I,q⟩
 |bl b =>
  cases rx
  have e':k=b:=e
  subst e'
  exact wpAny_truthy_bool ⟨H,I,q⟩
 |int i =>
  obtain ⟨t,rfl⟩:=rx
  have e':k=(i != 0):=e
  subst e'
  exact PySem.P.truthy_int ⟨H,I,q⟩
 |str y =>
  obtain ⟨t,rfl⟩:=rx
  obtain ⟨hy,e'⟩:y.length ≤ sizeLine∧k=((y.length:Int) != 0):=e
  subst e'
  exact PySem.P.truthy_str (by omega) ⟨H,I.tok _,q⟩
 |byt y =>
  obtain ⟨t,rfl⟩:=rx
  obtain ⟨hy,e'⟩:y.size ≤ sizeLine∧k=((y.size:Int) != 0):=e
  subst e'
  exact PySem.W.truthy_bytes (by omega) ⟨H,I.tok _,q⟩
 |ref p =>
  cases rx
  have e':(∃ xs,SqL X.K H p xs∧k = !xs.isEmpty)∨(∃ xs,SqT X.K H p xs∧k = !xs.isEmpty)∨∃ kvs,H p=some (.dK kvs)∧k = !kvs.isEmpty:=e
  rcases e' with ⟨xs,hx,e'⟩ | ⟨xs,hx,e'⟩ | ⟨kvs,hx,e'⟩
  ·subst e'
   obtain ⟨its,r,pl,hz⟩:=I.list hx
   have hlen:=r.length
   exact wpAny_truthy_list pl.isList (by simp only [List.size_toArray];omega) ⟨H,I.tok _,by rw [isEmpty_of r];exact q⟩
  ·subst e'
   obtain ⟨its,r,pl,hz⟩:=I.tuple hx
   have hlen:=r.length
   exact truthy_tuple pl (by simp only [List.size_toArray];omega) ⟨H,I.tok _,by rw [isEmpty_of r];exact q⟩
  ·subst e'
   obtain ⟨hz,hS,vs,r,m⟩:kvs.length ≤ sizeLine∧(p == sysModules)=false∧∃ vs,KV kvs vs∧s.heap.DictOf (mixKind X.prog X.w) p vs:=I.hok p _ hx
   have hlen:kvs.length=vs.length:=Paired.length r
   exact wpAny_truthy_dict hS m (by omega) ⟨H,I.tok _,by rw [isEmpty_kv r];exact q⟩
 |_=>exact (show False from e).elim
theorem pt_truth(ha:PE X a ta)(he:∀ whole,isTrue a X.env whole=(do let v ← whole;standAt a.pos;holding [v] (truthy v))) :
  PT X a (fun σ H Q=>ta σ H fun x H'=>∃ k,TruV X.K x H' k∧Q k H'):=by
 intro pins s σ H Q I h
 exact isTrue_plain (thn (ha pins s σ H _ I h) fun v s1 ⟨x,H1,I1,r1,q1⟩=>tru_ok pins s1 σ H1 x v Q I1 r1 q1) (he _)
theorem op_add_str:OpR X (binaryOp .Add) (fun x y H Q=>∃ i j,x = .str i∧y = .str j∧i.length + j.length ≤ sizeLine∧Q (.str (i ++ j)) H):=by
 intro pins s σ H x y v u Q I rx ry h
 obtain ⟨i,j,rfl,rfl,hz,q⟩:=h
 obtain ⟨t,rfl⟩:=rx
 obtain ⟨t',rfl⟩:=ry
 exact add_str (fun t' tk=>⟨.str (i ++ j),H,I.tok _,⟨_,rfl⟩,q⟩) hz
theorem vals1{x:V}{us:List Value}(r:Vals [x] us):∃ u,us=[u]∧RelV x u:=by
 cases r with
 |cons r1 r2=>cases r2;exact ⟨_,rfl,r1⟩
theorem vals2{x y:V}{us:List Value}(r:Vals [x,y] us):∃ u w',us=[u,w']∧RelV x u∧RelV y w':=by
 cases r with
 |cons r1 r2 =>
  cases r2 with
  |cons r3 r4=>cases r4;exact ⟨_,_,rfl,r1,r3⟩
theorem call_max2(hc:X.calm=true):CallR X (.builtin "max") (fun xs H Q=>∃ i j,xs=[.int i,.int j]∧Q (.int (if j > i then j else i)) H):=by
 intro pins s σ H xs us Q I r h
 obtain ⟨i,j,rfl,q⟩:=h
 obtain ⟨u,w',rfl,⟨t,rfl⟩,⟨t',rfl⟩⟩:=vals2 r
 refine max_two_ints (I.ok.hd hc) fun h' tk k=>⟨_,H,I.kept k,?_,q⟩
 by_cases hj:j > i
 ·rw [if_pos hj,if_pos hj];exact ⟨_,rfl⟩
 ·rw [if_neg hj,if_neg hj];exact ⟨_,rfl⟩
theorem call_min2(hc:X.calm=true):CallR X (.builtin "min") (fun xs H Q=>∃ i j,xs=[.int i,.int j]∧Q (.int (if j < i then j else i)) H):=by
 intro pins s σ H xs us Q I r h
 obtain ⟨i,j,rfl,q⟩:=h
 obtain ⟨u,w',rfl,⟨t,rfl⟩,⟨t',rfl⟩⟩:=vals2 r
 refine min_two_ints (I.ok.hd hc) fun h' tk k=>⟨_,H,I.kept k,?_,q⟩
 by_cases hj:j < i
 ·rw [if_pos hj,if_pos hj];exact ⟨_,rfl⟩
 ·rw [if_neg hj,if_neg hj];exact ⟨_,rfl⟩
theorem call_int1:CallR X (.type "int") (fun xs H Q=>(∃ i,xs=[.int i]∧Q (.int i) H)∨∃ k,xs=[.bl k]∧Q (.int (if k then 1 else 0)) H):=by
 intro pins s σ H xs us Q I r h
 rcases h with ⟨i,rfl,q⟩ | ⟨k,rfl,q⟩
 ·obtain ⟨u,rfl,t,rfl⟩:=vals1 r
  exact call_int_int ⟨.int i,H,I,⟨_,rfl⟩,q⟩
 ·obtain ⟨u,rfl,r1⟩:=vals1 r
  cases r1
  exact call_int_bool ⟨.int (if k then 1 else 0),H,I.tok _,⟨_,rfl⟩,q⟩
noncomputable def LenV(K:PySem.W.Frag)(x:V)(H:Hp)(n:Nat):Prop :=
 match x with
 |.str y=>y.length ≤ sizeLine∧n=y.length
 |.byt y=>y.size ≤ sizeLine∧n=y.size
 |.ref p=>(∃ xs,SqL K H p xs∧n=xs.length)∨∃ xs,SqT K H p xs∧n=xs.length
 |_=>False
theorem call_len:CallR X (.builtin "len") (fun xs H Q=>∃ x n,xs=[x]∧LenV X.K x H n∧Q (.int n) H):=by
 intro pins s σ H xs us Q I r h
 obtain ⟨x,n,rfl,e,q⟩:=h
 obtain ⟨u,rfl,rx⟩:=vals1 r
 have hl:=line63
 have hs:sizeLine=16777216:=sizeLine_eq
 cases x with
 |str y =>
  obtain ⟨t,rfl⟩:=rx
  obtain ⟨hy,e'⟩:y.length ≤ sizeLine∧n=y.length:=e
  subst e'
  exact len_str (by omega) ⟨.int _,H,I.tok _,⟨_,rfl⟩,q⟩
 |byt y =>
  obtain ⟨t,rfl⟩:=rx
  obtain ⟨hy,e'⟩:y.size ≤ sizeLine∧n=y.size:=e
  subst e'
  exact PySem.W.len_bytes (by omega) ⟨.int _,H,I.tok _,⟨_,rfl⟩,q⟩
 |ref p =>
  cases rx
  have e':(∃ xs,SqL X.K H p xs∧n=xs.length)∨∃ xs,SqT X.K H p xs∧n=xs.length:=e
  rcases e' with ⟨xs,hx,e'⟩ | ⟨xs,hx,e'⟩
  ·subst e'
   obtain ⟨its,r',pl,hz⟩:=I.list hx
   have hlen:=r'.length
   exact Calls.call_len_list pl.isList (by simp only [List.size_toArray];omega) ⟨.int xs.length,H,I.tok _,⟨_,by simp only [List.size_toArray];rw [hlen]⟩,q⟩
  ·subst e'
   obtain ⟨its,r',pl,hz⟩:=I.tuple hx
   have hlen:=r'.length
   exact len_tuple pl (by simp only [List.size_toArray];omega) ⟨.int xs.length,H,I.tok _,⟨_,by simp only [List.size_toArray];rw [hlen]⟩,q⟩
 |_=>exact (show False from e).elim
end
end L2
namespace L2
open PySem PySem.Spec PyProof.Rows
structure ObjM(h:Heap)(x dx C:Addr)(mA:Str→Option Value):Prop where
 obj:h.get? x=some (PySem.W.instObj C dx)
 ns:h.Ns1 dx mA
 ne:dx ≠ x
theorem lookIn_ns{h:Heap}{dx:Addr}{mA:Str→Option Value}(n:h.Ns1 dx mA):∃ od,h.get? dx=some od∧∀ name,PySem.W.lookIn name od=some (mA name):=by
 obtain ⟨o,es,ep,ho,hd,hk,_,hm⟩:=n
 refine ⟨o,ho,fun name=>?_⟩
 have e:=hm name
 unfold nsFind findBy at e
 rw [← Array.find?_toList] at e
 unfold PySem.W.lookIn
 rw [hd]
 dsimp only
 split
 ·rename_i y q
  rw [q] at e
  exact congrArg some e
 ·rename_i q
  rw [q] at e
  have a:es.toList.any (·.refKey)=false:=by
   rw [List.any_eq_false]
   intro y hy
   obtain ⟨z,t,hkey⟩:=hk y (Array.mem_toList_iff.mp hy)
   simp [DictEntry.refKey,hkey]
  have a':¬ es.toList.any (·.refKey)=true:=by rw [a];exact Bool.false_ne_true
  rw [if_neg a']
  exact congrArg some e
theorem ObjM.look{h:Heap}{x dx C:Addr}{mA:Str→Option Value}(I:ObjM h x dx C mA):∃ od,PySem.W.InstAt h x (PySem.W.instObj C dx) C (some od)∧∀ name,PySem.W.lookIn name od=some (mA name) :=
 let ⟨od,ho,hl⟩:=lookIn_ns I.ns
 ⟨od,⟨I.obj,rfl,rfl,ho⟩,hl⟩
section
variable {prog:Program} {w:World} {A:Around} {E:Value→Shared→Prop} {s:Shared} {K:PySem.W.Frag} {x dx C f:Addr} {mA:Str→Option Value} {name:Str} {v:Value}
end
theorem RelO.some_of{v:V}{o:Option Value}(r:RelO (some v) o):∃ u,o=some u∧RelV v u:=by
 cases o with
 |none=>exact (show False from r).elim
 |some u=>exact ⟨u,rfl,r⟩
section
variable {P:Program} {w:World} {H H':Hp} {h h':Heap} {a C dx:Addr} {fs fs':List (Str×V)}
theorem ins_get(hok:HOk P w H h)(e:H a=some (.ins C dx fs)):∃ mA,ObjM h a dx C mA∧(∀ f,RelO (fs.lookup f) (mA f))∧PySem.Within mA (fs.map (·.1))∧fs.length ≤ 1000∧H dx=some (.own a):=by
 obtain ⟨d,z,ne,ob,mA,n,r,q⟩:=(show ObjOk P w H h a (.ins C dx fs) from hok a _ e)
 exact ⟨mA,⟨ob,n,ne⟩,r,q,z,d⟩
end
structure Cls(K:PySem.W.Frag)(C:Addr):Prop where
 pg:PySem.W.plainGet K C Str.empty=true
 hd:PySem.W.hasDictIn K C=true
 po:PySem.W.plainOver K C=true
 sa:PySem.W.findIn K (.ref C) "__setattr__" = some (some (.builtin "object.__setattr__"))
theorem Cls.get{K:PySem.W.Frag}{C:Addr}(c:Cls K C)(f:Str):PySem.W.plainGet K C f=true:=c.pg
section
variable {X:Cx} {pins:List (Addr×Obj)} {σ:St} {H:Hp} {s:Shared} {a C dx:Addr} {fs:List (Str×V)} {f:Str} {v:V} {A:Around} {E:Value→Shared→Prop}
end
section
variable {X:Cx} {o e value:Expr} {f:Str} {pos pos' tpos:Pos} {ta tv:TE}
end
section
variable {X:Cx} {pins:List (Addr×Obj)} {σ:St} {H:Hp} {s:Shared} {A:Around} {E:Value→Shared→Prop} {Q:Value→Shared→Prop} {c:Value} {b:Bool}
inductive TyOf(K:PySem.W.Frag)(H:Hp):V→Value→Prop where
 |non:TyOf K H .non (.type "NoneType")
 |bl (x:Bool):TyOf K H (.bl x) (.type "bool")
 |int (i:Int):TyOf K H (.int i) (.type "int")
 |str (x:Str):TyOf K H (.str x) (.type "str")
 |flt (x:UInt64):TyOf K H (.flt x) (.type "float")
 |lst {a:Addr} {xs:List V} (e:H a=some (.lst xs)):TyOf K H (.ref a) (.type "list")
 |frz {a:Addr} {o:Obj} {xs:List V} (e:H a=some (.frz o (.lst xs))):TyOf K H (.ref a) (.type "list")
 |tup {a:Addr} {xs:List V} (e:H a=some (.tup xs)):TyOf K H (.ref a) (.type "tuple")
 |dK {a:Addr} {kvs:List (Key×V)} (e:H a=some (.dK kvs)):TyOf K H (.ref a) (.type "dict")
 |dT {a:Addr} {kvs:List (List Key×V)} (e:H a=some (.dT kvs)):TyOf K H (.ref a) (.type "dict")
 |ins {a C dx:Addr} {fs:List (Str×V)} (e:H a=some (.ins C dx fs)) (cl:Cls K C) (ha:PySem.W.findIn K (.ref C) "__class__" = some (some (.builtin "object.__class__")))
   (hn:PySem.W.specialIn K (.builtin "object.__class__") "__get__" = some (some (.builtin "getset_descriptor.__get__"))) (htk:PySem.W.takesIn K (.builtin "object.__class__")=some true)
   (hm:PySem.W.mroIn K C (.type "object")=some true):TyOf K H (.ref a) (.ref C)
theorem isinst_ok{x:V}{u t:Value}(I:Inv X pins σ H s)(rx:RelV x u)(ty:TyOf X.K H x t)(e:PySem.W.kitOne X.K t c=some b)(h:∀ tk,Q (.bool b) { s with toks:=tk }) :
  wpAny (model X.prog X.w) A (call (.builtin "isinstance") [u,c]) Q E s:=by
 cases ty with
 |non=>cases (show u=Value.none from rx);exact PySem.W.kia_one PySem.W.kitx_none I.kIn True.intro e (fun z=>nomatch z) h
 |bl y=>cases (show u=Value.bool y from rx);exact PySem.W.kia_one PySem.W.kitx_bool I.kIn True.intro e (fun z=>nomatch z) h
 |int i=>obtain ⟨t,q⟩:=(show ∃ t,u=Value.int i t from rx);cases q;exact PySem.W.kia_one PySem.W.kitx_int I.kIn True.intro e (fun z=>nomatch z) h
 |str y=>obtain ⟨t,q⟩:=(show ∃ t,u=Value.str y t from rx);cases q;exact PySem.W.kia_one PySem.W.kitx_str I.kIn True.intro e (fun z=>nomatch z) h
 |flt y=>obtain ⟨t,q⟩:=(show ∃ t,u=Value.float y t from rx);cases q;exact PySem.W.kia_one PySem.W.kitx_float I.kIn True.intro e (fun z=>nomatch z) h
 |@lst a xs ea =>
  cases (show u=Value.ref a from rx)
  obtain ⟨_,_,n,_,h1⟩:=(show ObjOk X.prog X.w H s.heap a (.lst xs) from I.hok a _ ea)
  exact PySem.W.kia_one PySem.W.kitx_list I.kIn ⟨_,h1,rfl⟩ e (fun z=>nomatch z) h
 |@frz a ob xs ea =>
  cases (show u=Value.ref a from rx)
  obtain ⟨_,_,_,n,_,h1⟩:=(show ObjOk X.prog X.w H s.heap a (.frz ob (.lst xs)) from I.hok a _ ea)
  exact PySem.W.kia_one PySem.W.kitx_list I.kIn ⟨_,h1,rfl⟩ e (fun z=>nomatch z) h
 |@tup a xs ea =>
  cases (show u=Value.ref a from rx)
  obtain ⟨_,_,_,p⟩:=(show ObjOk X.prog X.w H s.heap a (.tup xs) from I.hok a _ ea)
  obtain ⟨o,h1,h2,_⟩:=p
  exact PySem.W.kia_one PySem.W.kitx_tuple I.kIn ⟨o,h1,h2⟩ e (fun z=>nomatch z) h
 |@dK a kvs ea =>
  cases (show u=Value.ref a from rx)
  obtain ⟨_,_,vs,_,p⟩:=(show ObjOk X.prog X.w H s.heap a (.dK kvs) from I.hok a _ ea)
  obtain ⟨o,es,ep,h1,h2,_⟩:=p
  exact PySem.W.kia_one PySem.W.kitx_dict I.kIn ⟨o,h1,h2.1⟩ e (fun z=>nomatch z) h
 |@dT a kvs ea =>
  cases (show u=Value.ref a from rx)
  obtain ⟨_,_,xs,_,o,es,ep,h1,h2,_⟩:=(show ObjOk X.prog X.w H s.heap a (.dT kvs) from I.hok a _ ea)
  exact PySem.W.kia_one PySem.W.kitx_dict I.kIn ⟨o,h1,h2.1⟩ e (fun z=>nomatch z) h
 |@ins a C dx fs ea cl ha hn htk hm =>
  cases (show u=Value.ref a from rx)
  obtain ⟨mA,O,_⟩:=ins_get I.hok ea
  obtain ⟨od,J,_⟩:=O.look
  exact PySem.W.kia_one (PySem.W.kitx_own (cl.get _) cl.hd ha hn htk hm) I.kIn J e (fun z=>nomatch z) h
end
end L2
namespace L2
open PySem PySem.Spec PyProof.Rows
structure Room(k:Nat)(A:Around):Prop where
 hd:A.handled=none
 dp:A.depth + 3 * k + 5 < recursionLimit
 un:A.units + 16 * k + 200 < cLine
theorem Room.mono{j k:Nat}{A:Around}(r:Room k A)(h:j ≤ k):Room j A:=⟨r.hd,by have:=r.dp;omega,by have:=r.un;omega⟩
theorem Room.deeper{k:Nat}{A:Around}(r:Room (k + 1) A)(env:Env):Room k (A.deeper env) :=
 ⟨r.hd,by have:=r.dp;show A.depth + 1 + 3 * k + 5 < _;omega,by have:=r.un;show A.units + 3 + 16 * k + 200 < _;omega⟩
theorem Room.depth{k:Nat}{A:Around}(r:Room k A):A.depth < recursionLimit:=by have:=r.dp;omega
theorem Room.units{k:Nat}{A:Around}(r:Room k A):A.units + 64 < cLine:=by have:=r.un;omega
noncomputable def tNil:TA:=fun _ H Q=>Q [] H
noncomputable def tCons(ta:TE)(tr:TA):TA:=fun σ H Q=>ta σ H fun x H1=>tr σ H1 fun xs H2=>Q (x :: xs) H2
section
variable {X:Cx} {e:Expr} {es:List Expr} {te:TE} {t:TA} {pos:Pos}
theorem pa_nil:PA X [] tNil:=fun _ _ _ _ H Q I h=>Calls.spliced_nil ⟨[],H,I,.nil,h⟩
theorem pa_cons(ha:PE X e te)(hr:PA X es t)(hs:starEach (e :: es) X.env=(false,eval e X.env) :: starEach es X.env:=by rfl):PA X (e :: es) (tCons te t):=by
 intro pos pins s σ H Q I h
 rw [hs]
 show wpAny _ _ (spliced ((false,eval e X.env) :: backTo pos (starEach es X.env))) _ _ s
 refine Calls.spliced_cons (thn (ha pins s σ H _ I h) fun u s1 zz0=>?_)
 obtain ⟨x,H1,I1,r1,q1⟩:=zz0
 exact thn (hr pos pins s1 σ H1 _ I1 q1) fun us s2 ⟨xs,H2,I2,r2,q2⟩=>⟨x :: xs,H2,I2,.cons r1 r2,q2⟩
noncomputable def tTup(t:TA):TE:=fun σ H Q=>t σ H fun xs H1=>xs.length ≤ sizeLine∧∀ p,H1 p=none→Q (.ref p) (upd H1 p (.tup xs))
noncomputable def tLst(t:TA):TE:=fun σ H Q=>t σ H fun xs H1=>xs.length ≤ sizeLine∧∀ p,H1 p=none→Q (.ref p) (upd H1 p (.lst xs))
theorem pe_tup{x1}(h:PA X es t):PE X (.Tuple es x1 pos) (tTup t):=by
 intro pins s σ H Q I hq
 refine wpAny_Tuple_spliced (thn (h pos pins s σ H _ I hq) fun us s1 ⟨xs,H1,I1,r,z,q⟩=>⟨by rw [← r.length];exact z,?_⟩)
 have hf:H1 s1.heap.objs.size=none:=I1.hok.fresh (Nat.le_refl _)
 refine ⟨.ref s1.heap.objs.size,upd H1 s1.heap.objs.size (.tup xs),I1.laid (t':=s1.toks) (fun b u e=>Heap.get?_push_of_some _ e) (Nat.le_refl _) ?_,rfl,q _ hf⟩
 exact ⟨z,us,r,⟨_,Heap.get?_push_size _ rfl,rfl,_,rfl⟩⟩
theorem pe_lst(h:PA X es t):PE X (.List es pos) (tLst t):=by
 intro pins s σ H Q I hq
 refine wpAny_List_spliced (thn (h pos pins s σ H _ I hq) fun us s1 ⟨xs,H1,I1,r,z,q⟩=>⟨by rw [← r.length];exact z,?_⟩)
 have hf:H1 s1.heap.objs.size=none:=I1.hok.fresh (Nat.le_refl _)
 refine ⟨.ref s1.heap.objs.size,upd H1 s1.heap.objs.size (.lst xs),I1.laid (t':=s1.toks) (fun b u e=>Heap.get?_push_of_some _ e) (Nat.le_refl _) ?_,rfl,q _ hf⟩
 exact ⟨z,us,0,r,Heap.get?_push_size _ rfl⟩
end
noncomputable abbrev Sp:=List V→Hp→VK→XK→Prop
noncomputable abbrev CXT:=List Env→Hp→Shared→XK→Value→Shared→Prop
structure Env0(P:Program)(w:World)(K:PySem.W.Frag)(mg:Str→Option Value)(base:Heap)(A:Around)(outer:List Env)(s:Shared)(H:Hp):Prop where
 frames:A.frames=some outer
 mod:Mod K mg base
 bs:∀ b o,base.get? b=some o→s.heap.get? b=some o∧H b=none
 bsz:base.objs.size ≤ s.heap.objs.size
 funs:s.heap.FunFrames base outer
 frf:∀ b ∈ frs outer,H b=none
 hok:HOk P w H s.heap
 bare:AllBare s.gens
noncomputable def CE(outer:List Env)(P:Program)(w:World)(H:Hp)(s:Shared)(Q:VK)(u:Value)(s':Shared):Prop :=
 ∃ v H',s'.os=s.os∧AllBare s'.gens∧Un (frs outer) [] H H' s.heap s'.heap∧HOk P w H' s'.heap∧RelV v u∧Q v H'
noncomputable def CR(CX:CXT)(outer:List Env)(P:Program)(w:World)(H:Hp)(s:Shared)(Q:VK)(E:XK)(r:Result)(s':Shared):Prop :=
 match r with
 |.ok (.ret u)=>CE outer P w H s Q u s'
 |.ok _=>False
 |.error e=>CX outer H s E e s'
structure FnOk(P:Program)(w:World)(K:PySem.W.Frag)(mg:Str→Option Value)(base:Heap)(CX:CXT)(k:Nat)(f:Addr)(fd:FuncData)(ps:List Str)(sp:Sp):Prop where
 len:∀ vs H Q E,sp vs H Q E→vs.length=ps.length
 run:∀ (A:Around) (outer:List Env) (s:Shared) (H:Hp) (args:Args) (us:List Value) (vs:List V) (Q:VK) (E:XK),Room k A→Env0 P w K mg base A outer s H→BindsTo s fd args (ps.zip us)→Vals vs us→sp vs H Q E →
  codeAny (model P w) A (.call (.ref f) args) (CR CX outer P w H s Q E) s
section
variable {X:Cx} {pins:List (Addr×Obj)} {σ:St} {H:Hp} {s s':Shared}
theorem Inv.env0(I:Inv X pins σ H s):Env0 X.prog X.w X.K X.mg X.base X.A X.stack s H :=
 ⟨I.ok.frames,I.ok.mod,I.bs,Nat.le_trans I.ok.bsz I.sz,I.stack,I.stkFree,I.hok,I.bare⟩
theorem Inv.after{Q:VK}{u:Value}(I:Inv X pins σ H s)(h:CE X.stack X.prog X.w H s Q u s'):EP X pins σ Q u s':=by
 obtain ⟨v,H',os,bare,un,hok,r,q⟩:=h
 obtain ⟨hh,g,d,t,os'⟩:=s'
 obtain rfl:os'=s.os:=os
 exact ⟨v,H',I.call (h':=hh) (g':=g) (d':=d) (t':=t) (ch:=[]) un hok bare (fun b z=>absurd z (by simp)),r,q⟩
end
noncomputable def tCall(sp:Sp)(dvs:List V)(E:XK)(t:TA):TE:=fun σ H Q=>t σ H fun vs H1=>sp (vs ++ dvs) H1 Q E
noncomputable def Binds(K:PySem.W.Frag)(fd:FuncData)(ps:List Str)(ds:List Value):Prop :=
 ∀ (s:Shared) (us:List Value),K.In s.heap→(us ++ ds).length=ps.length→BindsTo s fd ⟨us,[]⟩ (ps.zip (us ++ ds))
theorem Binds.all{K:PySem.W.Frag}{fd:FuncData}{ps:List Str}(h:∀ us:List Value,us.length=ps.length→bindArgs fd ⟨us,[]⟩=pure (ps.zip us)):Binds K fd ps []:=fun s us _ hl=>by
 rw [List.append_nil] at hl ⊢
 exact .of_eq (h us hl)
noncomputable def Passes(CX:CXT)(X:Cx)(E:XK):Prop:=∀ (pins:List (Addr×Obj)) (σ:St) (H:Hp) (s:Shared) (e:Value) (s':Shared),Inv X pins σ H s→CX X.stack H s E e s'→X.xe e s'
section
variable {X:Cx} {CX:CXT} {k:Nat} {f C:Addr} {fd:FuncData} {ps:List Str} {sp:Sp} {dvs:List V} {ds:List Value} {E:XK} {x m:Str} {p pos apos:Pos} {e o:Expr} {es:List Expr} {ta:TE} {t:TA}
theorem run_fn{pins:List (Addr×Obj)}{σ:St}{H:Hp}{s:Shared}{Q:VK}{us:List Value}{vs:List V}(F:FnOk X.prog X.w X.K X.mg X.base CX k f fd ps sp)(hr:Room k X.A)(hb:Binds X.K fd ps ds)(hd:Vals dvs ds)(hx:Passes CX X E)
  (I:Inv X pins σ H s) (r:Vals vs us) (h:sp (vs ++ dvs) H Q E):wpAny (model X.prog X.w) X.A (call (.ref f) us) (EP X pins σ Q) X.xe s:=by
 have r2:Vals (vs ++ dvs) (us ++ ds):=r.append hd
 have hl:(us ++ ds).length=ps.length:=by rw [← r2.length];exact F.len _ _ _ _ h
 refine wpAny_call (codeAny_mono (F.run X.A X.stack s H ⟨us,[]⟩ (us ++ ds) (vs ++ dvs) Q E hr I.env0 (hb s us I.kIn hl) r2 h) fun r s' hq=>?_)
 cases r with
 |error e=>exact hx pins σ H s e s' I hq
 |ok fl =>
  cases fl with
  |ret u=>exact I.after hq
  |next=>exact False.elim hq
  |brk=>exact False.elim hq
  |cont=>exact False.elim hq
theorem pe_call(F:FnOk X.prog X.w X.K X.mg X.base CX k f fd ps sp)(hr:Room k X.A)(hg:Gl X x)(hm:X.mg x=some (.ref f))(hk:PySem.W.keepIn X.K (.ref f)=true)(hb:Binds X.K fd ps ds)(hd:Vals dvs ds)(hx:Passes CX X E)
  (ha:PA X (e :: es) t) (hdb:(x == ("__debug__":Str))=false:=by decide) (he:starEach (e :: es) X.env=(false,eval e X.env) :: starEach es X.env:=by rfl) (hpl:(backTo pos (starEach es X.env)).any (·.1)=false:=by rfl) :
  PE X (.Call (.Name x p) (e :: es) [] pos) (tCall sp dvs E t):=by
 intro pins s σ H Q I h
 refine wpAny_Call_Name_kw (ld_glob I hg hm ?_ hdb)
 refine PySem.W.callWith_K (h₀:=X.base) I.ok.mod.kin hk (thn (ha pos pins s σ H _ I h) fun us s1 ⟨vs,H1,I1,r,q⟩=>⟨I1.kIn,?_⟩) he hpl
 exact run_fn F hr hb hd hx I1 r q
end
section
variable {X:Cx} {CX:CXT} {k:Nat} {f C:Addr} {fd:FuncData} {ps ks:List Str} {sp:Sp} {E:XK} {x m:Str} {p pos apos kpos:Pos} {e o:Expr} {es:List Expr} {kws:List Keyword} {te ta:TE} {t tk:TA} {nm:Option Str}
variable {g:List Value→List Value→List Value} {gV:List V→List V→List V}
end
structure FnScope(N P:List Str)(sc:Scope):Prop where
 kind:sc.kind = .function
 co:sc.isCoroutine=false
 gen:sc.isGenerator=false
 nd:N.Nodup
 pre:N.take P.length=P
 par:∀ x ∈ P,sc.names.lookup x=some .local∨sc.names.lookup x=some .cell
 nofree:∀ y ∈ sc.names,y.2 ≠ .free
theorem bindL_out{kindOf:Str→Option NameKind}{x:Str}:∀ {binds:List (Str×Value)} {m:Str→Option Value},(∀ v,(x,v) ∉ binds)→bindL kindOf binds m x=m x
 |[],_,_=>rfl
 |(n,v) :: r,m,h=>by
  unfold bindL
  rw [bindL_out fun w hw=>h w (List.mem_cons_of_mem _ hw)]
  split
  ·have:x ≠ n:=by rintro rfl;exact h v List.mem_cons_self
   simp [this]
  ·rfl
theorem bindC_out{kindOf:Str→Option NameKind}{x:Str}:∀ {binds:List (Str×Value)} {m:Str→Option Value},(∀ v,(x,v) ∉ binds)→bindC kindOf binds m x=m x
 |[],_,_=>rfl
 |(n,v) :: r,m,h=>by
  unfold bindC
  rw [bindC_out fun w hw=>h w (List.mem_cons_of_mem _ hw)]
  split
  ·rfl
  ·have:x ≠ n:=by rintro rfl;exact h v List.mem_cons_self
   simp [this]
theorem bindL_get{kindOf:Str→Option NameKind}{x:Str}{v:Value}:∀ {P:List Str} {vs:List Value} {i:Nat} {m:Str→Option Value},P.Nodup→P[i]?=some x→vs[i]?=some v→kindOf x=some .local →
  bindL kindOf (P.zip vs) m x=some v
 |[],_,_,_,_,h,_,_=>by simp at h
 |_ :: _,[],_,_,_,_,h,_=>by simp at h
 |p :: P,w :: vs,0,m,nd,h1,h2,hk=>by
  simp at h1 h2;subst h1;subst h2
  show bindL kindOf ((p,w) :: P.zip vs) m p=_
  unfold bindL
  rw [bindL_out fun v hv=>(List.nodup_cons.mp nd).1 (List.of_mem_zip hv).1,if_pos hk]
  simp
 |p :: P,w :: vs,i + 1,m,nd,h1,h2,hk=>by
  show bindL kindOf ((p,w) :: P.zip vs) m x=_
  unfold bindL
  exact bindL_get (i:=i) (List.nodup_cons.mp nd).2 (by simpa using h1) (by simpa using h2) hk
theorem bindC_get{kindOf:Str→Option NameKind}{x:Str}{v:Value}:∀ {P:List Str} {vs:List Value} {i:Nat} {m:Str→Option Value},P.Nodup→P[i]?=some x→vs[i]?=some v→kindOf x ≠ some .local →
  bindC kindOf (P.zip vs) m x=some v
 |[],_,_,_,_,h,_,_=>by simp at h
 |_ :: _,[],_,_,_,_,h,_=>by simp at h
 |p :: P,w :: vs,0,m,nd,h1,h2,hk=>by
  simp at h1 h2;subst h1;subst h2
  show bindC kindOf ((p,w) :: P.zip vs) m p=_
  unfold bindC
  rw [bindC_out fun v hv=>(List.nodup_cons.mp nd).1 (List.of_mem_zip hv).1,if_neg hk]
  simp
 |p :: P,w :: vs,i + 1,m,nd,h1,h2,hk=>by
  show bindC kindOf ((p,w) :: P.zip vs) m x=_
  unfold bindC
  exact bindC_get (i:=i) (List.nodup_cons.mp nd).2 (by simpa using h1) (by simpa using h2) hk
noncomputable def start(N:List Str)(vs:List V):St:=vs.map some ++ List.replicate (N.length - vs.length) none
noncomputable def cxOf(CX:CXT)(P:Program)(w:World)(K:PySem.W.Frag)(mg:Str→Option Value)(base:Heap)(N:List Str)(qual:Str)(scope:Scope)(f:Addr)(cd:Value)(A:Around)(outer:List Env)(s:Shared)(H:Hp)(E:XK):Cx where
 prog:=P
 w:=w
 K:=K
 mg:=mg
 base:=base
 A:=A.deeper (envOfC qual scope s.heap.objs.size f cd)
 N:=N
 s₀:=s
 H₀:=H
 env:=envOfC qual scope s.heap.objs.size f cd
 outer:=outer
 stack:=envOfC qual scope s.heap.objs.size f cd :: outer
 ex:=[]
 calm:=true
 fn:=fun _=>true
 pn:=[]
 xe:=fun e s'=>wpAny (model P w) (A.deeper (envOfC qual scope s.heap.objs.size f cd)) (leaving (envOfC qual scope s.heap.objs.size f cd) e) (fun _ s''=>CX outer H s E e s'') (fun e' s''=>CX outer H s E e' s'') s'
theorem cell_has{sc:Scope}{n:Nat}{x:Str}(h:sc.names.lookup x=some .cell):∃ c,(cellsFrom n sc.names []).lookup x=some c:=by
 have q:=PySem.W.cellsFrom_some sc.names n [] (.inl h)
 exact Option.isSome_iff_exists.mp q
theorem inv_start{CX:CXT}{P:Program}{w:World}{K:PySem.W.Frag}{mg:Str→Option Value}{base:Heap}{N ps:List Str}{qual:Str}{scope:Scope}{f:Addr}{cd:Value}{A:Around}{outer:List Env}{s s1:Shared}{H:Hp}{E:XK}{us:List Value}{vs:List V}
  (S:FnScope N ps scope) (hd:A.handled=none) (e0:Env0 P w K mg base A outer s H) (hl:vs.length=ps.length) (r:Vals vs us)
  (x:InCallC s s.heap.objs.size (bindL (envOfC qual scope s.heap.objs.size f cd).kindOf (ps.zip us) fun _=>none) (cellsFrom (s.heap.objs.size + 1) scope.names []) (bindC (envOfC qual scope s.heap.objs.size f cd).kindOf (ps.zip us) fun _=>none) s1) :
  Inv (cxOf CX P w K mg base N qual scope f cd A outer s H E) [] (start N vs) H s1:=by
 have hpl:ps.length ≤ N.length:=by have:=congrArg List.length S.pre;rw [List.length_take] at this;omega
 obtain ⟨h1,tk,rfl,hk⟩:=x.done
 have noA:∀ b:Addr,b ∉ (cxOf CX P w K mg base N qual scope f cd A outer s H E).ex:=fun b z=>absurd (show b ∈ ([]:List Addr) from z) (by simp)
 refine ⟨⟨e0.mod,S.kind,rfl,rfl,Nat.le_refl _,fun y z c h1 h2=>?_,fun y hy=>?_,fun y c _ h=>?_,fun _=>hd,Around.frames_deeper e0.frames,.inr ⟨rfl,rfl⟩,fun b z=>absurd z (noA b),e0.bs,e0.bsz,fun b _ _=>noA b,fun b z=>absurd z (noA b),e0.funs,e0.frf⟩,
  rfl,e0.bare,Un.kept hk,⟨_,x.toInCall.ns,fun i y v h1 h2 h3=>?_⟩,fun y c h=>⟨_,x.cell y c h⟩,e0.hok.fresh (Nat.le_refl _),fun y c h=>?_,fun p hp=>absurd (show p ∈ ([]:List (Addr×Obj)) from hp) (by simp),e0.hok.kept hk,?_⟩
 ·exact name_of_addr x.apart (PySem.mem_of_lookup h1) (PySem.mem_of_lookup h2)
 ·have hy:scope.names.lookup y=some .cell∨scope.names.lookup y=some .free:=hy
  rcases hy with hy | hy
  ·exact cell_has hy
  ·exact absurd rfl (S.nofree _ (PySem.mem_of_lookup hy))
 ·exact Nat.le_of_lt (x.above y c (PySem.mem_of_lookup h))
 ·have hi:i < vs.length:=by
   unfold start at h2
   by_cases hi:i < vs.length
   ·exact hi
   ·rw [List.getElem?_append_right (by simpa using hi)] at h2
    rw [List.getElem?_replicate] at h2
    split at h2 <;> cases h2
  have ha:vs[i]?=some v:=by
   unfold start at h2
   rw [List.getElem?_append_left (by simpa using hi),List.getElem?_map] at h2
   cases e:vs[i]? with
   |none=>rw [e] at h2;cases h2
   |some a=>rw [e] at h2;cases h2;rfl
  obtain ⟨u,hu,rv⟩:=r.get ha
  have hp:ps[i]?=some y:=by
   rw [← S.pre,List.getElem?_take_of_lt (by omega)];exact h1
  have ndP:ps.Nodup:=by rw [← S.pre];exact S.nd.sublist (List.take_sublist _ _)
  refine ⟨u,rv,?_⟩
  rcases S.par y (List.mem_of_getElem? hp) with k | k
  ·exact .inl ⟨k,bindL_get ndP hp hu k⟩
  ·obtain ⟨c,e⟩:=cell_has (n:=s.heap.objs.size + 1) k
   refine .inr ⟨.inl k,c,e,?_⟩
   have q:=x.cell y c e
   rw [bindC_get ndP hp hu (by show scope.names.lookup y ≠ _;rw [k];decide)] at q
   exact q
 ·exact e0.hok.fresh (Nat.le_of_lt (x.above y c (PySem.mem_of_lookup h)))
 ·unfold start
  show _=N.length
  rw [List.length_append,List.length_map,List.length_replicate]
  omega
theorem fn_of{CX:CXT}{P:Program}{w:World}{K:PySem.W.Frag}{mg:Str→Option Value}{base:Heap}{k:Nat}{f:Addr}{name qual:Str}{params:Arguments}{body:List Stmt}{scope:Scope}{dV kV doc pm cdv ct oc:Value}{an od:Option Addr}
  {osl:Array (Option Value)} {N ps:List Str} {sp:Sp} (lk:K.lookup f=some ⟨oc,od,.func (PySem.W.fnOf name qual params body scope dV kV doc pm an cdv ct),osl⟩) (hcd:PySem.W.codeIn K cdv qual=true) (S:FnScope N ps scope)
  (len:∀ vs H Q E,sp vs H Q E→vs.length=ps.length)
  (hbody:∀ (A:Around) (outer:List Env) (s:Shared) (H:Hp) (vs:List V) (Q:VK) (E:XK),Room k (A.deeper (envOfC qual scope s.heap.objs.size f cdv))→sp vs H Q E →
   ∃ t,PSs (cxOf CX P w K mg base N qual scope f cdv A outer s H E) body t∧t { nx:=fun _ H'=>Q .non H',rt:=Q } (start N vs) H) :
  FnOk P w K mg base CX (k + 1) f (PySem.W.fnOf name qual params body scope dV kV doc pm an cdv ct) ps sp:=by
 refine ⟨len,fun A outer s H args us vs Q E hr e0 hb r hsp=>?_⟩
 have hl:=len _ _ _ _ hsp
 have KX:K.In s.heap:=e0.mod.kin.keeps fun b o e=>(e0.bs b o e).1
 have lim:s.heap.NoLimit:=e0.mod.nolimit.keeps fun b o e=>(e0.bs b o e).1
 have hkind:∀ y ∈ ps.zip us,scope.names.lookup y.1=some .local∨(scope.names.lookup y.1=some .cell∧((cellsFrom (s.heap.objs.size + 1) scope.names []).lookup y.1).isSome=true):=fun zz0 hy=>by
  obtain ⟨n,v⟩:=zz0
  rcases S.par n (List.of_mem_zip hy).1 with q | q
  ·exact .inl q
  ·exact .inr ⟨q,PySem.W.cellsFrom_some _ _ _ (.inl q)⟩
 refine codeAny_call_function hr.depth (KX _ _ lk) rfl S.co S.gen rfl (PySem.W.codeRec_of KX hcd) (hb _ _ _ _ ?_)
 refine wpAny_newFunctionEnv_cells S.kind hkind fun env he s1 x=>?_
 subst he
 refine ⟨lim.keeps x.toInCall.keep,codeAny_func ?_⟩
 obtain ⟨t,ht,hq⟩:=hbody A outer s H vs Q E (hr.deeper _) hsp
 have I:Inv (cxOf CX P w K mg base N qual scope f cdv A outer s H E) [] (start N vs) H s1:=inv_start S hr.hd e0 hl r x
 refine wpAny_mono (ht [] s1 (start N vs) H _ I hq) (fun fl s' hs=>?_) fun e s' hs=>hs
 have fin:∀ {σ':St} {H':Hp} {v:V} {u:Value},Inv (cxOf CX P w K mg base N qual scope f cdv A outer s H E) [] σ' H' s'→RelV v u→Q v H'→CE outer P w H s Q u s' :=
  fun {σ' H' v u} J rv q=>⟨v,H',J.os,J.bare,J.base,J.hok,rv,q⟩
 cases fl with
 |ret u =>
  obtain ⟨v,σ',H',J,rv,q⟩:=hs
  exact fin J rv q
 |next =>
  obtain ⟨σ',H',J,q⟩:=hs
  exact fin (v:=V.non) (u:=Value.none) J rfl q
 |brk =>
  obtain ⟨_,_,_,q⟩:=hs
  exact False.elim q
 |cont =>
  obtain ⟨_,_,_,q⟩:=hs
  exact False.elim q
end L2
namespace L2
open PySem PySem.Spec PyProof.Rows
section
variable {X:Cx} {x:Str} {p pos:Pos} {e:Expr} {es:List Expr} {t:TA} {id T:String} {r:List V→Hp→VK→Prop}
noncomputable def tCB(r:List V→Hp→VK→Prop)(t:TA):TE:=fun σ H Q=>t σ H fun vs H1=>r vs H1 Q
theorem pe_callB(hc:CallR X (.builtin id) r)(hg:Gl X x)(hm:X.mg x=none)(hv:bootBuiltins x=some (.builtin id))(ha:PA X (e :: es) t)(hn:x ≠ "__name__":=by decide)(hdb:(x == ("__debug__":Str))=false:=by decide)
  (he:starEach (e :: es) X.env=(false,eval e X.env) :: starEach es X.env:=by rfl) (hpl:(backTo pos (starEach es X.env)).any (·.1)=false:=by rfl):PE X (.Call (.Name x p) (e :: es) [] pos) (tCB r t):=by
 intro pins s σ H Q I h
 refine wpAny_Call_Name_kw (ld_blt I hg hm hv ?_ hn hdb)
 exact PyProof.Rows.callWith_builtin1 (thn (ha pos pins s σ H _ I h) fun us s1 ⟨vs,H1,I1,r1,q1⟩=>hc pins s1 σ H1 vs us Q I1 r1 q1) he hpl
theorem pe_callTy(hc:CallR X (.type T) r)(hg:Gl X x)(hm:X.mg x=none)(hv:bootBuiltins x=some (.type T))(ha:PA X (e :: es) t)(hn:x ≠ "__name__":=by decide)(hdb:(x == ("__debug__":Str))=false:=by decide)
  (he:starEach (e :: es) X.env=(false,eval e X.env) :: starEach es X.env:=by rfl) (hpl:(backTo pos (starEach es X.env)).any (·.1)=false:=by rfl):PE X (.Call (.Name x p) (e :: es) [] pos) (tCB r t):=by
 intro pins s σ H Q I h
 refine wpAny_Call_Name_kw (ld_blt I hg hm hv ?_ hn hdb)
 exact PyProof.Rows.callWith_type1 (thn (ha pos pins s σ H _ I h) fun us s1 ⟨vs,H1,I1,r1,q1⟩=>hc pins s1 σ H1 vs us Q I1 r1 q1) he hpl
end
end L2
namespace L2
open PySem PySem.Spec PyProof.Rows
section
variable {κ:Type} [DecidableEq κ]
noncomputable def valV(kvs:List (κ×V))(k:κ):Option V:=(kvs.find? fun kv=>decide (kv.1=k)).map (·.2)
noncomputable def putK(kvs:List (κ×V))(k:κ)(v:V):List (κ×V) :=
 if (kvs.any fun kv=>decide (kv.1=k))=true then kvs.map (fun kv=>if kv.1=k then (kv.1,v) else kv) else kvs ++ [(k,v)]
noncomputable def dropK(kvs:List (κ×V))(k:κ):List (κ×V):=kvs.filter fun kv=>decide (kv.1 ≠ k)
theorem valV_pos{p:κ×V}{r:List (κ×V)}{k:κ}(e:p.1=k):valV (p :: r) k=some p.2:=by simp [valV,List.find?_cons,e]
theorem valV_neg{p:κ×V}{r:List (κ×V)}{k:κ}(e:¬ p.1=k):valV (p :: r) k=valV r k:=by simp [valV,List.find?_cons,e]
theorem valV_any(k:κ):∀ kvs:List (κ×V),(kvs.any fun kv=>decide (kv.1=k))=(valV kvs k).isSome
 |[]=>rfl
 |p :: r=>by
  rw [List.any_cons]
  by_cases e:p.1=k
  ·simp only [valV_pos e,decide_eq_true e,Bool.true_or,Option.isSome_some]
  ·rw [valV_neg e,decide_eq_false e,Bool.false_or];exact valV_any k r
theorem length_putK(kvs:List (κ×V))(k:κ)(v:V):(putK kvs k v).length ≤ kvs.length + 1:=by
 unfold putK
 split
 ·rw [List.length_map];omega
 ·rw [List.length_append,List.length_cons,List.length_nil];omega
theorem RelO.isSome_eq{o:Option V}{u:Option Value}(r:RelO o u):o.isSome=u.isSome:=by
 cases o with
 |none=>cases u with
  |none=>rfl
  |some _=>exact (show False from r).elim
 |some _=>cases u with
  |none=>exact (show False from r).elim
  |some _=>rfl
theorem RelO.getD{o:Option V}{u:Option Value}{d:V}{d':Value}(r:RelO o u)(rd:RelV d d'):RelV (o.getD d) (u.getD d'):=by
 cases o with
 |none=>cases u with
  |none=>exact rd
  |some _=>exact (show False from r).elim
 |some _=>cases u with
  |none=>exact (show False from r).elim
  |some _=>exact r
theorem KV.val{kvs:List (κ×V)}{vs:List (κ×Value)}(r:KV kvs vs)(k:κ):RelO (valV kvs k) (valueAt vs k):=by
 unfold KV at r
 induction r with
 |nil=>exact True.intro
 |@cons p q ps qs h t ih =>
  obtain ⟨h1,h2⟩:=h
  by_cases e:p.1=k
  ·have e':q.1=k:=h1.symm.trans e
   have b:valueAt (q :: qs) k=some q.2:=by simp [valueAt,List.find?_cons,e']
   rw [valV_pos e,b];exact h2
  ·have e':¬ q.1=k:=fun z=>e (h1.trans z)
   have b:valueAt (q :: qs) k=valueAt qs k:=by simp [valueAt,List.find?_cons,e']
   rw [valV_neg e,b];exact ih
theorem KV.any{kvs:List (κ×V)}{vs:List (κ×Value)}(r:KV kvs vs)(k:κ):(kvs.any fun kv=>decide (kv.1=k))=vs.any fun kv=>decide (kv.1=k):=by
 unfold KV at r
 induction r with
 |nil=>rfl
 |cons h t ih=>rw [List.any_cons,List.any_cons,ih,h.1]
theorem KV.repl{kvs:List (κ×V)}{vs:List (κ×Value)}(r:KV kvs vs)(k:κ){y:V}{u:Value}(ry:RelV y u) :
  KV (kvs.map fun kv=>if kv.1=k then (kv.1,y) else kv) (vs.map fun kv=>if kv.1=k then (kv.1,u) else kv):=by
 unfold KV at r ⊢
 induction r with
 |nil=>exact .nil
 |@cons p q ps qs h t ih =>
  rw [List.map_cons,List.map_cons]
  refine .cons ?_ ih
  obtain ⟨h1,h2⟩:=h
  by_cases e:p.1=k
  ·rw [if_pos e,if_pos (h1.symm.trans e)];exact ⟨h1,ry⟩
  ·rw [if_neg e,if_neg (fun z=>e (h1.trans z))];exact ⟨h1,h2⟩
theorem KV.put{kvs:List (κ×V)}{vs:List (κ×Value)}(r:KV kvs vs)(k:κ){y:V}{u:Value}(ry:RelV y u):KV (putK kvs k y) (stored vs k u):=by
 unfold putK stored
 rw [r.any k]
 by_cases e:(vs.any fun kv=>decide (kv.1=k))=true
 ·rw [if_pos e,if_pos e];exact r.repl k ry
 ·rw [if_neg e,if_neg e];exact Paired.snoc r ⟨rfl,ry⟩
theorem KV.length{kvs:List (κ×V)}{vs:List (κ×Value)}(r:KV kvs vs):kvs.length=vs.length:=Paired.length r
end
theorem kV_is{P:Program}{w:World}{k:Key}{u:Value}(r:RelV (kV k) u):(mixKind P w).is k u=true:=by
 cases k with
 |inl i=>obtain ⟨t,e⟩:=(show ∃ t,u=Value.int i t from r);subst e;exact mixKind_int P w i t
 |inr x=>obtain ⟨t,e⟩:=(show ∃ t,u=Value.str x t from r);subst e;exact mixKind_str P w x t
theorem items_are{P:Program}{w:World}:∀ {ks:List Key} {us:List Value},Vals (ks.map kV) us→ItemsAre (mixKind P w) ks us
 |[],_,r=>by rw [List.map_nil] at r;cases r;exact .nil
 |k :: ks,_,r=>by
  rw [List.map_cons] at r
  cases r with
  |cons h t=>exact .cons (kV_is h) (items_are t)
noncomputable abbrev KT(H:Hp):List (List Key×V)→List (List Key×Addr×Value)→Prop:=Paired fun p q=>p.1=q.1∧H q.2.1=some (.tup (p.1.map kV))∧RelV p.2 q.2.2
theorem KT.val{H:Hp}{kvs:List (List Key×V)}{xs:List (List Key×Addr×Value)}(r:KT H kvs xs)(k:List Key):RelO (valV kvs k) ((atKey xs k).map (·.2)):=by
 induction r with
 |nil=>exact True.intro
 |@cons p q ps qs h t ih =>
  obtain ⟨h1,_,h2⟩:=h
  by_cases e:p.1=k
  ·have e':q.1=k:=h1.symm.trans e
   have b:atKey (q :: qs) k=some q.2:=by simp [atKey,List.find?_cons,e']
   rw [valV_pos e,b];exact h2
  ·have e':¬ q.1=k:=fun z=>e (h1.trans z)
   have b:atKey (q :: qs) k=atKey qs k:=by simp [atKey,List.find?_cons,e']
   rw [valV_neg e,b];exact ih
theorem KT.repl{H:Hp}{kvs:List (List Key×V)}{xs:List (List Key×Addr×Value)}(r:KT H kvs xs)(k:List Key){y:V}{u:Value}(ry:RelV y u) :
  KT H (kvs.map fun kv=>if kv.1=k then (kv.1,y) else kv) (xs.map (putAt k u)):=by
 induction r with
 |nil=>exact .nil
 |@cons p q ps qs h t ih =>
  rw [List.map_cons,List.map_cons]
  refine .cons ?_ ih
  obtain ⟨h1,h2,h3⟩:=h
  unfold putAt
  by_cases e:p.1=k
  ·rw [if_pos e,if_pos (h1.symm.trans e)];exact ⟨h1,h2,ry⟩
  ·rw [if_neg e,if_neg (fun z=>e (h1.trans z))];exact ⟨h1,h2,h3⟩
theorem KT.put{H:Hp}{kvs:List (List Key×V)}{xs:List (List Key×Addr×Value)}(r:KT H kvs xs)(k:List Key){b:Addr}{y:V}{u:Value}(hb:H b=some (.tup (k.map kV)))(ry:RelV y u) :
  KT H (putK kvs k y) (storedH xs k b u):=by
 have e:(kvs.any fun kv=>decide (kv.1=k))=(atKey xs k).isSome:=by
  rw [valV_any,(r.val k).isSome_eq,Option.isSome_map]
 unfold putK storedH
 rw [e]
 by_cases q:(atKey xs k).isSome=true
 ·rw [if_pos q,if_pos q];exact r.repl k ry
 ·rw [if_neg q,if_neg q];exact Paired.snoc r ⟨rfl,hb,ry⟩
theorem KT.keeps{H H':Hp}{kvs:List (List Key×V)}{xs:List (List Key×Addr×Value)}(r:KT H kvs xs)(ht:∀ b ys,H b=some (.tup ys)→H' b=some (.tup ys)):KT H' kvs xs :=
 Paired.mapP r fun _ _ z=>⟨z.1,ht _ _ z.2.1,z.2.2⟩
section
variable {P:Program} {w:World} {H:Hp} {h:Heap} {a:Addr}
theorem rd_of{u:HO}(ok:HOk P w H h)(e:Rd H a u):ObjOk P w H h a u:=e.ok ok
theorem dk_rd{kvs:List (Key×V)}(ok:HOk P w H h)(e:Rd H a (.dK kvs)):kvs.length ≤ sizeLine∧(a == sysModules)=false∧∃ vs,KV kvs vs∧h.DictOf (mixKind P w) a vs :=
 show ObjOk P w H h a (.dK kvs) from rd_of ok e
theorem dk_of{kvs:List (Key×V)}(ok:HOk P w H h)(e:H a=some (.dK kvs)):kvs.length ≤ sizeLine∧(a == sysModules)=false∧∃ vs,KV kvs vs∧h.DictOf (mixKind P w) a vs:=dk_rd ok (.inl e)
theorem key_of{ks:List Key}(ok:HOk P w H h)(e:H a=some (.tup (ks.map kV))):(tupleKind (mixKind P w)).is h ks a:=by
 obtain ⟨_,its,r,o,h1,h2,n,h3⟩:=(show ObjOk P w H h a (.tup (ks.map kV)) from ok a _ e)
 exact ⟨o,its.toArray,n,h1,h2,h3,by simpa using items_are r⟩
theorem dt_rd{kvs:List (List Key×V)}(ok:HOk P w H h)(e:Rd H a (.dT kvs)):kvs.length ≤ sizeLine∧(a == sysModules)=false ∧
  ∃ xs,KT H kvs xs∧h.DictOfH (tupleKind (mixKind P w)) a xs:=by
 obtain ⟨z,y,xs,r,o,es,ep,h1,h2,h3,h4,h5⟩:=(show ObjOk P w H h a (.dT kvs) from rd_of ok e)
 refine ⟨z,y,xs,r,o,es,ep,h1,h2,h3,h4,fun x hx=>?_,h5⟩
 have all:∀ {l:List (List Key×V)} {m:List (List Key×Addr×Value)},KT H l m→∀ x ∈ m,(tupleKind (mixKind P w)).is h x.1 x.2.1:=by
  intro l m q
  induction q with
  |nil=>intro x hx;exact nomatch hx
  |@cons p q ps qs hq t ih =>
   intro x hx
   rcases List.mem_cons.mp hx with e | hx
   ·subst e
    exact key_of ok (by rw [← hq.1];exact hq.2.1)
   ·exact ih x hx
 exact all r x hx
theorem dt_of{kvs:List (List Key×V)}(ok:HOk P w H h)(e:H a=some (.dT kvs)):kvs.length ≤ sizeLine∧(a == sysModules)=false ∧
  ∃ xs,KT H kvs xs∧h.DictOfH (tupleKind (mixKind P w)) a xs:=dt_rd ok (.inl e)
end
noncomputable def DGet(H:Hp)(a:Addr)(y:V)(r:Option V):Prop :=
 (∃ kvs k,Rd H a (.dK kvs)∧y=kV k∧r=valV kvs k)∨∃ kvs k b,Rd H a (.dT kvs)∧y = .ref b∧H b=some (.tup (k.map kV))∧r=valV kvs k
noncomputable def DPut(H:Hp)(a:Addr)(y v:V)(H':Hp):Prop :=
 (∃ kvs k,H a=some (.dK kvs)∧y=kV k∧kvs.length < sizeLine∧H'=upd H a (.dK (putK kvs k v))) ∨
 ∃ kvs k b,H a=some (.dT kvs)∧y = .ref b∧H b=some (.tup (k.map kV))∧kvs.length < sizeLine∧H'=upd H a (.dT (putK kvs k v))
theorem DPut.t{H:Hp}{a b:Addr}{kvs:List (List Key×V)}{k:List Key}{v:V}(e:H a=some (.dT kvs))(eb:H b=some (.tup (k.map kV)))(hl:kvs.length < sizeLine) :
  DPut H a (.ref b) v (upd H a (.dT (putK kvs k v))):=.inr ⟨kvs,k,b,e,rfl,eb,hl,rfl⟩
section
variable {X:Cx} {pins:List (Addr×Obj)} {σ:St} {H:Hp} {s:Shared} {a:Addr} {y v:V} {u r:Value} {o:Option V} {A:Around} {E:Value→Shared→Prop}
theorem Inv.big(I:Inv X pins σ H s):sysModules < s.heap.objs.size:=by
 have h:mainGlobals < s.heap.objs.size:=(I.mod.glob.keeps I.bk).lt
 exact Nat.lt_trans (by decide) h
theorem d_getItem{Q:Value→Shared→Prop}(hu:A.units + 1 < cLine)(I:Inv X pins σ H s)(g:DGet H a y (some v))(ry:RelV y u)(h:∀ w' s',Inv X pins σ H s'→RelV v w'→Q w' s') :
  wpAny (model X.prog X.w) A (getItem (.ref a) u) Q E s:=by
 rcases g with ⟨kvs,k,e,ey,l⟩ | ⟨kvs,k,b,e,ey,eb,l⟩
 ·subst ey
  obtain ⟨z,hd,vs,rel,dd⟩:=dk_rd I.hok e
  obtain ⟨w',hw,rw'⟩:=RelO.some_of (v:=v) (o:=valueAt vs k) (by rw [l];exact rel.val k)
  exact wpAny_getItem_of (kV_is ry) dd.mapOf hw (h w' _ (I.tok _) rw')
 ·subst ey
  cases (show u=Value.ref b from ry)
  obtain ⟨z,hd,xs,rel,dd⟩:=dt_rd I.hok e
  obtain ⟨w',hw,rw'⟩:=RelO.some_of (v:=v) (o:=(atKey xs k).map (·.2)) (by rw [l];exact rel.val k)
  obtain ⟨p,hp,hp2⟩:=Option.map_eq_some_iff.mp hw
  refine wpAny_getItem_heap (tupleKind_room_in1 hu) (key_of I.hok eb) dd hp ?_
  rw [hp2]
  exact h w' _ (I.tok _) rw'
theorem d_in{Q:Value→Shared→Prop}(hu:A.units + 1 < cLine)(I:Inv X pins σ H s)(g:DGet H a y o)(ry:RelV y u)(h:∀ s',Inv X pins σ H s'→Q (.bool o.isSome) s') :
  wpAny (model X.prog X.w) A (compareOp .In u (.ref a)) Q E s:=by
 rcases g with ⟨kvs,k,e,ey,l⟩ | ⟨kvs,k,b,e,ey,eb,l⟩
 ·subst ey
  obtain ⟨z,hd,vs,rel,dd⟩:=dk_rd I.hok e
  refine wpAny_in_of (kV_is ry) hd dd.mapOf ?_
  rw [← (rel.val k).isSome_eq,← l]
  exact h _ (I.tok _)
 ·subst ey
  cases (show u=Value.ref b from ry)
  obtain ⟨z,hd,xs,rel,dd⟩:=dt_rd I.hok e
  refine wpAny_in_heap (tupleKind_room_in1 hu) (key_of I.hok eb) hd dd ?_
  have q:=(rel.val k).isSome_eq
  rw [Option.isSome_map] at q
  rw [← q,← l]
  exact h _ (I.tok _)
theorem d_notIn{Q:Value→Shared→Prop}(hu:A.units + 1 < cLine)(I:Inv X pins σ H s)(g:DGet H a y o)(ry:RelV y u)(h:∀ s',Inv X pins σ H s'→Q (.bool (!o.isSome)) s') :
  wpAny (model X.prog X.w) A (compareOp .NotIn u (.ref a)) Q E s:=by
 rcases g with ⟨kvs,k,e,ey,l⟩ | ⟨kvs,k,b,e,ey,eb,l⟩
 ·subst ey
  obtain ⟨z,hd,vs,rel,dd⟩:=dk_rd I.hok e
  refine wpAny_notIn_of (kV_is ry) hd dd.mapOf ?_
  rw [← (rel.val k).isSome_eq,← l]
  exact h _ (I.tok _)
 ·subst ey
  cases (show u=Value.ref b from ry)
  obtain ⟨z,hd,xs,rel,dd⟩:=dt_rd I.hok e
  refine wpAny_notIn_heap (tupleKind_room_in1 hu) (key_of I.hok eb) hd dd ?_
  have q:=(rel.val k).isSome_eq
  rw [Option.isSome_map] at q
  rw [← q,← l]
  exact h _ (I.tok _)
theorem d_write{h':Heap}{t':Nat}{ob:HO}(I:Inv X pins σ H s)(mu:Mut (H a))(hs:Heap.SameBut a s.heap h')(he:∃ q,h'.get? a=some q)(new:ObjOk X.prog X.w (upd H a ob) h' a ob) :
  Inv X pins σ (upd H a ob) { s with heap:=h',toks:=t' } :=
 I.write (x:=a) (e:=a) mu (.inl rfl) (fun b q hb z=>(hs.2 b hb).trans z) he new
theorem dk_new{P:Program}{w:World}{H':Hp}{h':Heap}{kvs:List (Key×V)}{vs:List (Key×Value)}(z:kvs.length ≤ sizeLine)(hd:(a == sysModules)=false)(rel:KV kvs vs)(dd:h'.DictOf (mixKind P w) a vs) :
  ObjOk P w H' h' a (.dK kvs):=⟨z,hd,vs,rel,dd⟩
theorem d_setItem{H':Hp}{Q:Unit→Shared→Prop}(hu:A.units + 1 < cLine)(I:Inv X pins σ H s)(g:DPut H a y v H')(ry:RelV y u)(rv:RelV v r)(h:∀ s',Inv X pins σ H' s'→Q () s') :
  wpAny (model X.prog X.w) A (setItem (.ref a) u r) Q E s:=by
 rcases g with ⟨kvs,k,e,ey,l,eH⟩ | ⟨kvs,k,b,e,ey,eb,l,eH⟩
 ·subst ey eH
  obtain ⟨z,hd,vs,rel,dd⟩:=dk_of I.hok e
  have hz:vs.length ≤ sizeLine:=by rw [← rel.length];exact z
  have hl:(putK kvs k v).length ≤ sizeLine:=by have:=length_putK kvs k v;omega
  refine wpAny_setItem_pairs (hsz:=hz) (kV_is ry) dd fun h' dd' hs=>h _ ?_
  have he:∃ q,h'.get? a=some q:=let ⟨q,_,_,hq,_⟩:=dd';⟨q,hq⟩
  exact d_write I (by rw [e];exact True.intro) hs he (dk_new hl hd (rel.put k rv) dd')
 ·subst ey eH
  cases (show u=Value.ref b from ry)
  obtain ⟨z,hd,xs,rel,dd⟩:=dt_of I.hok e
  have hz:xs.length ≤ sizeLine:=by rw [← Paired.length rel];exact z
  have hl:(putK kvs k v).length ≤ sizeLine:=by have:=length_putK kvs k v;omega
  refine wpAny_setItem_heap (hsz:=hz) (tupleKind_room_in1 hu) (key_of I.hok eb) dd fun h' dd' hs=>h _ ?_
  obtain ⟨q,es,ep,hq,h2,h3,h4,_,h5⟩:=dd'
  refine d_write I (by rw [e];exact True.intro) hs ⟨q,hq⟩ ⟨hl,hd,_,(rel.put k eb rv).keeps fun c ys ec=>?_,q,es,ep,hq,h2,h3,h4,h5⟩
  rw [upd_ne (ne_of ec e (fun z=>nomatch z))]
  exact ec
end
section
variable {X:Cx} {pins:List (Addr×Obj)} {σ:St} {H:Hp} {s:Shared} {a:Addr} {kvs:List (Key×V)} {k:Key} {u:Value} {A:Around} {E:Value→Shared→Prop}
end
noncomputable def NoSl(i:Expr):Prop:=∀ ov iv,subscripted i false ov iv=operate [ov,iv] (getItem ov iv)
theorem subD_of{prog:Program}{w:World}{A:Around}{E:Value→Shared→Prop}{s:Shared}{env:Env}{value slice:Expr}{pos:Pos}{T id:String}{Q:Value→Shared→Prop}
  (hl:typeLookup (.type T) "__getitem__" = pure (some (.builtin id))) (hs:NoSl slice)
  (h:wpAny (model prog w) A (eval value env) (fun o s₁=>wpAny (model prog w) A (eval slice env) (fun i s₂=>s₂.TypeIs o T∧wpAny (model prog w) A (getItem o i) Q E s₂) E s₁) E s) :
  wpAny (model prog w) A (eval (.Subscript value slice pos) env) Q E s:=by
 refine Subscript_ (wpAny_mono h (fun o s₁ h₁=>wpAny_mono h₁ (fun i s₂ h₂=>?_) fun _ _ x=>x) fun _ _ x=>x)
 obtain ⟨hT,h₂⟩:=h₂
 unfold subscriptTail
 refine wpAny_bind ?_
 rw [getitemInPython_of_ne hT.not_modules]
 refine wpAny_bind (wpAny_specialOf hT hl ?_)
 have fin:wpAny (model prog w) A (subscripted slice false o i) (fun r s₃=>wpAny (model prog w) A (letTemporaryGo value o r >>= fun _=>pure r) Q E s₃) E s₂:=by
  rw [hs o i]
  exact wpAny_operating (wpAny_mono h₂ (fun r s₃ h₃=>wpAny_bind (wpAny_letTemporaryGo (wpAny_pure h₃))) fun _ _ x=>x)
 first
  |exact wpAny_pure (wpAny_bind fin)
  |exact wpAny_bind (wpAny_pure (wpAny_bind fin))
  |exact wpAny_bind fin
theorem dict_typeIs{X:Cx}{pins:List (Addr×Obj)}{σ:St}{H:Hp}{s:Shared}{a:Addr}{y:V}{o:Option V}(I:Inv X pins σ H s)(g:DGet H a y o):s.TypeIs (.ref a) "dict":=by
 rcases g with ⟨kvs,k,e,_,_⟩ | ⟨kvs,k,b,e,_,_,_⟩
 ·obtain ⟨_,_,vs,_,dd⟩:=dk_rd I.hok e
  exact dd.typeIs
 ·obtain ⟨_,_,xs,_,dd⟩:=dt_rd I.hok e
  exact dd.typeIs
noncomputable def tDGet(td ty:TE):TE:=fun σ H Q=>td σ H fun x H1=>ty σ H1 fun y H2=>∃ a v,x = .ref a∧DGet H2 a y (some v)∧Q v H2
noncomputable def sDPut(td ty tv:TE):TS:=fun D σ H=>tv σ H fun v H1=>td σ H1 fun x H2=>ty σ H2 fun y H3=>∃ a H4,x = .ref a∧DPut H3 a y v H4∧D.nx σ H4
section
variable {X:Cx} {o i e value:Expr} {pos pos' tpos:Pos} {td ty tv:TE}
theorem pe_dget(hu:X.A.units + 1 < cLine)(ho:PE X o td)(hi:PE X i ty)(hs:NoSl i):PE X (.Subscript o i pos) (tDGet td ty):=by
 intro pins s σ H Q I h
 refine subD_of PySem.F.slot_dict_getitem.lookup hs (thn (ho pins s σ H _ I h) fun u s1 ⟨x,H1,I1,rx,q1⟩=>thn (hi pins s1 σ H1 _ I1 q1) fun iv s2 zz0=>?_)
 obtain ⟨y,H2,I2,ry,a,v,ex,g,q2⟩:=zz0
 subst ex
 obtain rfl:u=Value.ref a:=rx
 exact ⟨dict_typeIs I2 g,d_getItem hu I2 g ry fun w' s3 I3 rw'=>⟨v,H2,I3,rw',q2⟩⟩
theorem ps_dput(hu:X.A.units + 1 < cLine)(ho:PE X o td)(hi:PE X i ty)(hv:PE X value tv)(hs:swapsWith value (some (.Subscript o i pos')) pos.line X.env=pure false) :
  PS X (.Assign [.Subscript o i pos'] value pos) (sDPut td ty tv):=by
 intro pins s σ H D I h
 refine wpAny_Assign_Subscript (thn (hv pins s σ H _ I h) fun r s1 ⟨v,H1,I1,rv,q1⟩=>thn (ho pins s1 σ H1 _ I1 q1) fun u s2 ⟨x,H2,I2,rx,q2⟩=>thn (hi pins s2 σ H2 _ I2 q2) fun iv s3 zz0=>?_) hs
 obtain ⟨y,H3,I3,ry,a,H4,ex,g,q3⟩:=zz0
 subst ex
 obtain rfl:u=Value.ref a:=rx
 exact d_setItem hu I3 g ry rv fun s4 I4=>⟨σ,H4,I4,q3⟩
end
theorem dt_empty{P:Program}{w:World}{H:Hp}(h:Heap)(hb:sysModules < h.objs.size):ObjOk P w H (h.push { cls:=.type "dict",data:=.dict #[] }) h.objs.size (.dT []) :=
 ⟨Nat.zero_le _,beq_eq_false_iff_ne.mpr (Ne.symm (Nat.ne_of_lt hb)),[],.nil,_,#[],0,Heap.get?_push_size _ rfl,⟨rfl,rfl,rfl⟩,rfl,rfl,List.nodup_nil⟩
noncomputable def tDNewT:TE:=fun _ H Q=>∀ p,H p=none→Q (.ref p) (upd H p (.dT []))
section
variable {X:Cx} {pos:Pos}
theorem pe_dnewT:PE X (.Dict [] [] pos) tDNewT:=fun pins s σ H Q I h =>
 wpAny_Dict_empty ⟨.ref s.heap.objs.size,_,I.laid (a:=s.heap.objs.size) (o:=.dT []) (t':=s.toks) (fun _ _ q=>Heap.get?_push_of_some _ q) (Nat.le_refl _) (dt_empty s.heap I.big),rfl,h _ (I.hok.fresh (Nat.le_refl _))⟩
end
structure M1(X:Cx)(o:Expr)(m:Str)(apos:Pos)(e:Expr)(cpos:Pos):Prop where
 base:attributeBase o m X.env (eval o X.env)=eval o X.env
 few:((backTo cpos (starEach [e] X.env)).all (fun x=>!x.1) && (backToKw cpos (keywordEach [] X.env)).all (fun x=>x.1.isSome)
  && decide (([e]:List Expr).length + ([]:List Keyword).length + (if ([]:List Keyword).isEmpty then 0 else 1) < 30))=true
 line:(apos.endLine == cpos.line)=true
 trees:backTo cpos (starEach [e] X.env)=[(false,eval e X.env)]
structure M2(X:Cx)(o:Expr)(m:Str)(apos:Pos)(e f:Expr)(cpos:Pos):Prop where
 base:attributeBase o m X.env (eval o X.env)=eval o X.env
 few:((backTo cpos (starEach [e,f] X.env)).all (fun x=>!x.1) && (backToKw cpos (keywordEach [] X.env)).all (fun x=>x.1.isSome)
  && decide (([e,f]:List Expr).length + ([]:List Keyword).length + (if ([]:List Keyword).isEmpty then 0 else 1) < 30))=true
 line:(apos.endLine == cpos.line)=true
 trees:backTo cpos (starEach [e,f] X.env)=[(false,eval e X.env),(false,eval f X.env)]
noncomputable def IsD(H:Hp)(a:Addr):Prop:=(∃ kvs,Rd H a (.dK kvs))∨∃ kvs,Rd H a (.dT kvs)
theorem isD_at{X:Cx}{pins:List (Addr×Obj)}{σ:St}{H:Hp}{s:Shared}{a:Addr}(I:Inv X pins σ H s)(d:IsD H a) :
  s.TypeIs (.ref a) "dict"∧(∀ b,Value.ref a = .ref b→∃ ob,s.heap.get? b=some ob∧ob.dict=none)∧(a == sysModules)=false:=by
 rcases d with ⟨kvs,e⟩ | ⟨kvs,e⟩
 ·obtain ⟨_,hd,vs,_,dd⟩:=dk_rd I.hok e
  refine ⟨dd.typeIs,fun b q=>?_,hd⟩
  cases q
  obtain ⟨ob,_,_,h1,h2,_⟩:=dd
  exact ⟨ob,h1,h2.2.1⟩
 ·obtain ⟨_,hd,xs,_,dd⟩:=dt_rd I.hok e
  refine ⟨dd.typeIs,fun b q=>?_,hd⟩
  cases q
  obtain ⟨ob,_,_,h1,h2,_⟩:=dd
  exact ⟨ob,h1,h2.2.1⟩
section
variable {X:Cx} {pins:List (Addr×Obj)} {σ:St} {H:Hp} {s:Shared} {a:Addr} {y d:V} {u r:Value} {o:Option V} {A:Around} {E:Value→Shared→Prop}
theorem d_get1{Q:Value→Shared→Prop}(hu:A.units + 1 < cLine)(I:Inv X pins σ H s)(g:DGet H a y o)(ry:RelV y u)(h:∀ w' s',Inv X pins σ H s'→RelV (o.getD .non) w'→Q w' s') :
  wpAny (model X.prog X.w) A (call (.builtin "dict.get") [.ref a,u]) Q E s:=by
 rcases g with ⟨kvs,k,e,ey,l⟩ | ⟨kvs,k,b,e,ey,eb,l⟩
 ·subst ey
  obtain ⟨z,hd,vs,rel,dd⟩:=dk_rd I.hok e
  refine call_meetsIn PySem.F.slot_dict_get dd.typeIs PySem.F.entry_dict_get (PySem.F.args_dict_get_2 _ _) (meets_dict_get (mixKind X.prog X.w) a (kV_is ry) hd) ⟨_,dd.mapOf,h _ _ (I.tok _) ?_⟩
  rw [l]
  exact (rel.val k).getD rfl
 ·subst ey
  cases (show u=Value.ref b from ry)
  obtain ⟨z,hd,xs,rel,dd⟩:=dt_rd I.hok e
  refine call_meetsIn PySem.F.slot_dict_get dd.typeIs PySem.F.entry_dict_get (PySem.F.args_dict_get_2 _ _) (meetsH_dict_get (tupleKind (mixKind X.prog X.w)) a b hd) ⟨tupleKind_room_in1 hu,k,xs,key_of I.hok eb,dd,h _ _ (I.tok _) ?_⟩
  rw [l]
  exact (rel.val k).getD rfl
theorem d_get2{Q:Value→Shared→Prop}(hu:A.units + 1 < cLine)(I:Inv X pins σ H s)(g:DGet H a y o)(ry:RelV y u)(rd:RelV d r)(h:∀ w' s',Inv X pins σ H s'→RelV (o.getD d) w'→Q w' s') :
  wpAny (model X.prog X.w) A (call (.builtin "dict.get") [.ref a,u,r]) Q E s:=by
 rcases g with ⟨kvs,k,e,ey,l⟩ | ⟨kvs,k,b,e,ey,eb,l⟩
 ·subst ey
  obtain ⟨z,hd,vs,rel,dd⟩:=dk_rd I.hok e
  refine call_meetsIn PySem.F.slot_dict_get dd.typeIs PySem.F.entry_dict_get (PySem.F.args_dict_get_3 _ _ _) (meets_dict_get_default (mixKind X.prog X.w) a (kV_is ry) hd r) ⟨_,dd.mapOf,h _ _ (I.tok _) ?_⟩
  rw [l]
  exact (rel.val k).getD rd
 ·subst ey
  cases (show u=Value.ref b from ry)
  obtain ⟨z,hd,xs,rel,dd⟩:=dt_rd I.hok e
  refine call_meetsIn PySem.F.slot_dict_get dd.typeIs PySem.F.entry_dict_get (PySem.F.args_dict_get_3 _ _ _) (meetsH_dict_get_default (tupleKind (mixKind X.prog X.w)) a b hd r) ⟨tupleKind_room_in1 hu,k,xs,key_of I.hok eb,dd,h _ _ (I.tok _) ?_⟩
  rw [l]
  exact (rel.val k).getD rd
end
noncomputable def tDGet1(td ty:TE):TE:=fun σ H Q=>td σ H fun x H1=>∃ a,x = .ref a∧IsD H1 a∧ty σ H1 fun y H2=>∃ o,DGet H2 a y o∧Q (o.getD .non) H2
noncomputable def tDGet2(td ty tx:TE):TE:=fun σ H Q=>td σ H fun x H1=>∃ a,x = .ref a∧IsD H1 a∧ty σ H1 fun y H2=>tx σ H2 fun z H3=>∃ o,DGet H3 a y o∧Q (o.getD z) H3
section
variable {X:Cx} {o e f:Expr} {apos cpos:Pos} {td ty tx:TE}
theorem pe_dget1(hu:X.A.units + 1 < cLine)(ho:PE X o td)(he:PE X e ty)(m:M1 X o "get" apos e cpos):PE X (.Call (.Attribute o "get" apos) [e] [] cpos) (tDGet1 td ty):=by
 intro pins s σ H Q I h
 refine wpAny_Call_method m.base m.few m.line PySem.F.plainAttrs_dict PySem.F.slot_dict_get PySem.F.type_dict_get (thn (ho pins s σ H _ I h) fun u s1 zz0=>?_)
 obtain ⟨x,H1,I1,rx,a,ex,d,q1⟩:=zz0
 subst ex
 obtain rfl:u=Value.ref a:=rx
 obtain ⟨t1,t2,_⟩:=isD_at I1 d
 refine ⟨t1,t2,?_⟩
 rw [m.trees]
 refine Calls.callWith_builtin rfl (Calls.evalArgs_plain (Calls.spliced_cons (thn (he pins s1 σ H1 _ I1 q1) fun iv s2 ⟨y,H2,I2,ry,ov,g,q2⟩=>Calls.spliced_nil ?_)))
 exact d_get1 hu I2 g ry fun w' s3 I3 rw'=>⟨_,H2,I3,rw',q2⟩
theorem pe_dget2(hu:X.A.units + 1 < cLine)(ho:PE X o td)(he:PE X e ty)(hf:PE X f tx)(m:M2 X o "get" apos e f cpos):PE X (.Call (.Attribute o "get" apos) [e,f] [] cpos) (tDGet2 td ty tx):=by
 intro pins s σ H Q I h
 refine wpAny_Call_method m.base m.few m.line PySem.F.plainAttrs_dict PySem.F.slot_dict_get PySem.F.type_dict_get (thn (ho pins s σ H _ I h) fun u s1 zz0=>?_)
 obtain ⟨x,H1,I1,rx,a,ex,d,q1⟩:=zz0
 subst ex
 obtain rfl:u=Value.ref a:=rx
 obtain ⟨t1,t2,_⟩:=isD_at I1 d
 refine ⟨t1,t2,?_⟩
 rw [m.trees]
 refine Calls.callWith_builtin rfl (Calls.evalArgs_plain (Calls.spliced_cons (thn (he pins s1 σ H1 _ I1 q1) fun iv s2 ⟨y,H2,I2,ry,q2⟩ =>
  Calls.spliced_cons (thn (hf pins s2 σ H2 _ I2 q2) fun fv s3 ⟨z,H3,I3,rz,ov,g,q3⟩=>Calls.spliced_nil ?_))))
 exact d_get2 hu I3 g ry rz fun w' s4 I4 rw'=>⟨_,H3,I4,rw',q3⟩
end
section
variable {X:Cx} {pins:List (Addr×Obj)} {σ:St} {H:Hp} {s:Shared} {a:Addr} {kvs:List (Key×V)} {A:Around} {E:Value→Shared→Prop}
end
section
variable {X:Cx} {pins:List (Addr×Obj)} {σ:St} {H:Hp} {s:Shared} {a:Addr} {y:V} {u:Value} {A:Around} {E:Value→Shared→Prop}
end
end L2
namespace HT
open PySem PyProof.Rows
section
open PySem.SeqAt
open PySem.AutoSeq1 (wpAny_loadPart')
open PySem.MeetsSeq PySem.MeetsSeq2 PySem.MeetsSeq3
end
section
variable {prog:Program} {w:World} {A:Around} {E:Value→Shared→Prop} {s:Shared}
theorem cat_tup{t b:Addr}{vs ws:List Value}{Q:Value→Shared→Prop}(ht:IsTup s.heap t vs.toArray)(hb:IsTup s.heap b ws.toArray)(hv:vs ≠ [])
  (h1:ws=[]→Q (.ref t) s) (h2:ws ≠ []→Q (.ref s.heap.objs.size) { s with heap:=s.heap.push { cls:=.type "tuple",data:=.seq (vs ++ ws).toArray } })
  (hsz:vs.length + ws.length ≤ sizeLine):wpAny (model prog w) A (binaryOp .Add (.ref t) (.ref b)) Q E s:=by
 obtain ⟨⟨cls,dd,data,sl⟩,ho,hc,n,hd⟩:=id ht
 obtain ⟨⟨cls2,dd2,data2,sl2⟩,ho2,hc2,n2,hd2⟩:=id hb
 simp only at hc hd hc2 hd2
 subst hc hd hc2 hd2
 have e:vs.toArray ++ ws.toArray=(vs ++ ws).toArray:=by simp
 by_cases hw:ws=[]
 ·exact concat_meets ⟨_,ho,rfl⟩ ⟨_,ho2,rfl⟩ noFill_tuple_add seq_tuple_add PySem.F.slot_tuple_add PySem.F.entry_tuple_add (PySem.F.args_tuple_add_2 _ _)
   (tuple_addW1 t b vs.toArray ws.toArray n n2 dd dd2 sl sl2 (by simpa using hv) (by simp [hw])) ⟨ho,ho2,h1 hw⟩
 ·refine concat_meets ⟨_,ho,rfl⟩ ⟨_,ho2,rfl⟩ noFill_tuple_add seq_tuple_add PySem.F.slot_tuple_add PySem.F.entry_tuple_add (PySem.F.args_tuple_add_2 _ _)
   (tuple_addW2 t b vs.toArray ws.toArray n n2 dd dd2 sl sl2 (by simpa using hv) (by simpa using hw) (by rw [List.size_toArray,List.size_toArray];exact hsz)) ⟨ho,ho2,?_⟩
  rw [e]
  exact h2 hw
noncomputable def sIx(n d:Nat):Option Int→Nat
 |none=>d
 |some v=>if v < 0 then (v + (n:Int)).toNat else min v.toNat n
theorem sIx_le(n d:Nat)(hd:d ≤ n)(o:Option Int):sIx n d o ≤ n:=by
 cases o with
 |none=>exact hd
 |some v =>
  show (if v < 0 then (v + (n:Int)).toNat else min v.toNat n) ≤ n
  by_cases hv:v < 0
  ·rw [if_pos hv];omega
  ·rw [if_neg hv];exact Nat.min_le_right _ _
theorem clip_eq(v:Int)(n d:Nat):(if v < 0 then max (v + (n:Int)) 0 else min v (n:Int))=((sIx n d (some v):Nat):Int):=by
 show (if v < 0 then max (v + (n:Int)) 0 else min v (n:Int))=(((if v < 0 then (v + (n:Int)).toNat else min v.toNat n):Nat):Int)
 by_cases hv:v < 0
 ·simp only [if_pos hv];omega
 ·simp only [if_neg hv];omega
theorem adjust_gen(lo hi:Option Int)(n:Nat):Builtin.Slice.sliceAdjust lo hi 1 (n:Int)=(((sIx n 0 lo:Nat):Int),((sIx n n hi:Nat):Int)):=by
 have h1:¬ ((1:Int) < 0):=by omega
 unfold Builtin.Slice.sliceAdjust
 simp only [h1,if_false]
 refine Prod.ext ?_ ?_
 ·cases lo with
  |none=>rfl
  |some v=>exact clip_eq v n 0
 ·cases hi with
  |none=>rfl
  |some v=>exact clip_eq v n n
theorem places_gen(i j:Nat):Builtin.Slice.slicePlaces (i:Int) (j:Int) 1=j - i:=by
 unfold Builtin.Slice.slicePlaces
 have h1:(1:Int) > 0:=by omega
 simp only [h1,if_true,Int.ediv_one]
 split <;> omega
theorem slicePart_{v:Value}{o:Option Int}{Q:Option Int→Shared→Prop}(p:IsPart v o)(h:Q o s):wpAny (model prog w) A (Builtin.Slice.slicePartIndex v) Q E s:=by
 cases p with
 |none=>exact slicePart_none h
 |int i t=>exact slicePart_int h
theorem sliceApplied_gen{sl:Addr}{vl vu:Value}{lo hi:Option Int}{n:Nat}{Q:Int×Int×Nat→Shared→Prop}(hs:s.heap.IsSliceOf sl vl vu .none)(pl:IsPart vl lo)(pu:IsPart vu hi)
  (h:Q (((sIx n 0 lo:Nat):Int),1,sIx n n hi - sIx n 0 lo) s):wpAny (model prog w) A (Builtin.Slice.sliceApplied (.ref sl) (pure (n:Int))) Q E s:=by
 obtain ⟨os,hos,hcs,hds⟩:=id hs
 unfold Builtin.Slice.sliceApplied Builtin.Slice.sliceFields
 refine wpAny_bind (wpAny_bind (wpAny_field hos hds (x:=vl) rfl (wpAny_bind (wpAny_field hos hds (x:=vu) rfl (wpAny_bind (wpAny_field hos hds (x:=.none) rfl (wpAny_pure ?_)))))))
 refine wpAny_bind (slicePart_none ?_)
 show wpAny _ _ (if ((1:Int) == 0)=true then _ else _) _ _ s
 rw [if_neg (by decide)]
 refine wpAny_bind (slicePart_ pl (wpAny_bind (slicePart_ pu (wpAny_bind (wpAny_pure ?_)))))
 show wpAny _ _ (match Builtin.Slice.sliceAdjust lo hi 1 (n:Int) with | (lo,hi)=>pure (lo,(1:Int),Builtin.Slice.slicePlaces lo hi 1)) _ _ s
 rw [adjust_gen lo hi n]
 show wpAny _ _ (pure (((sIx n 0 lo:Nat):Int),(1:Int),Builtin.Slice.slicePlaces ((sIx n 0 lo:Nat):Int) ((sIx n n hi:Nat):Int) 1)) _ _ s
 rw [places_gen]
 exact wpAny_pure h
theorem pick_gen(xs:Array Value)(i k:Nat):((List.range k).filterMap fun (m:Nat)=>xs[((i:Int) + (m:Int) * 1).toNat]?).toArray=((xs.toList.drop i).take k).toArray:=by
 have e:(fun (m:Nat)=>xs[((i:Int) + (m:Int) * 1).toNat]?)=fun m=>xs[i + m]?:=by
  funext m
  have:((i:Int) + (m:Int) * 1).toNat=i + m:=by omega
  rw [this]
 rw [e]
 have:=pick_run xs i k
 rw [List.filterMap_map] at this
 have e2:((fun x=>xs[x]?) ∘ fun x=>i + x)=fun m=>xs[i + m]?:=rfl
 rw [e2] at this
 rw [this]
theorem getItem_tuple_cut{t sl:Addr}{items:Array Value}{vl vu:Value}{lo hi:Option Int}{Q:Value→Shared→Prop}(ht:IsTup s.heap t items)(hs:s.heap.IsSliceOf sl vl vu .none)(pl:IsPart vl lo)(pu:IsPart vu hi)
  (hw:¬ (sIx items.size 0 lo=0∧sIx items.size items.size hi=items.size))
  (h:Q (.ref s.heap.objs.size) { s with heap:=s.heap.push { cls:=.type "tuple",data:=.seq ((items.toList.drop (sIx items.size 0 lo)).take (sIx items.size items.size hi - sIx items.size 0 lo)).toArray } })
  (hsz:items.size ≤ sizeLine):wpAny (model prog w) A (getItem (.ref t) (.ref sl)) Q E s:=by
 have htake:sizeOk (.seq ((items.toList.drop (sIx items.size 0 lo)).take (sIx items.size items.size hi - sIx items.size 0 lo)).toArray):=by
  show ((items.toList.drop (sIx items.size 0 lo)).take (sIx items.size items.size hi - sIx items.size 0 lo)).toArray.size ≤ sizeLine
  rw [List.size_toArray,List.length_take,List.length_drop,Array.length_toList]
  omega
 have hj:sIx items.size items.size hi ≤ items.size:=sIx_le _ _ (Nat.le_refl _) hi
 obtain ⟨os,hos,hcs,hds⟩:=id hs
 have hTs:s.TypeIs (.ref sl) "slice":=⟨os,hos,hcs⟩
 unfold getItem
 try with_reducible refine wpAny_holding ?_
 first | refine wpAny_bind (wpAny_pure ?_) | skip
 refine wpAny_bind (wpAny_sequenceKey ht.typeIs (by decide) ?_)
 refine wpAny_bind (wpAny_callSpecial?_slot (name:=Str.ofString "__getitem__") ht.typeIs PyProof.Rows.slot_tuple_getitem
  (wpAny_call_entry PyProof.Rows.slot_tuple_getitem ht.typeIs entry_tuple_getitem ?_ (args_tuple_getitem _ _)))
 show wpAny _ _ (Builtin.Tuple.tupleItemsOf (.ref t) >>= _) _ _ s
 refine wpAny_bind (tupleItemsOf_ ht ?_)
 refine wpAny_bind (wpAny_typeOf hTs ?_)
 rw [if_pos (by decide)]
 refine wpAny_bind (sliceApplied_gen hs pl pu ?_)
 have hno:¬ ((((sIx items.size 0 lo:Nat):Int) == 0 && (1:Int) == 1 && (sIx items.size items.size hi - sIx items.size 0 lo) == items.size)=true):=by
  intro q
  rw [Bool.and_eq_true,Bool.and_eq_true] at q
  have q1:((sIx items.size 0 lo:Nat):Int)=0:=eq_of_beq q.1.1
  have q2:sIx items.size items.size hi - sIx items.size 0 lo=items.size:=eq_of_beq q.2
  exact hw ⟨by omega,by omega⟩
 show wpAny _ _ (if (((sIx items.size 0 lo:Nat):Int) == 0 && (1:Int) == 1 && (sIx items.size items.size hi - sIx items.size 0 lo) == items.size)=true then _ else _) _ _ s
 rw [if_neg hno,pick_gen]
 first
  |exact wpAny_bind (m:=Builtin.Tuple.tupleExact _) (wpAny_newObj_type (wpAny_pure ⟨_,rfl,wpAny_pure h⟩) htake)
  |exact wpAny_bind (m:=Builtin.Tuple.tupleExact _) (wpAny_newObj_type (wpAny_bind (wpAny_pure (wpAny_pure ⟨_,rfl,wpAny_pure h⟩))) htake)
  |exact wpAny_bind (wpAny_bind (m:=Builtin.Tuple.tupleExact _) (wpAny_newObj_type (wpAny_pure (wpAny_pure ⟨_,rfl,wpAny_pure h⟩)) htake))
  |exact wpAny_bind (wpAny_bind (m:=Builtin.Tuple.tupleExact _) (wpAny_newObj_type (wpAny_pure ⟨_,rfl,wpAny_pure h⟩) htake))
end
end HT
namespace L2
open PySem PySem.Spec PyProof.Rows
noncomputable abbrev TO:=St→Hp→(Option Int→Hp→Prop)→Prop
noncomputable def PO(X:Cx)(e:Option Expr)(t:TO):Prop :=
 ∀ (pins:List (Addr×Obj)) (s:Shared) (σ:St) (H:Hp) (Q:Option Int→Hp→Prop),Inv X pins σ H s→t σ H Q →
  wpAny (model X.prog X.w) X.A (evalPart e X.env) (fun u s'=>∃ o H',Inv X pins σ H' s'∧IsPart u o∧Q o H') X.xe s
noncomputable def tNoPart:TO:=fun _ H Q=>Q none H
noncomputable def tPart(t:TE):TO:=fun σ H Q=>t σ H fun x H1=>∃ i,x = .int i∧Q (some i) H1
theorem intsAre_of{ns:List Int}:∀ {us:List Value},Vals (ns.map V.int) us→IntsAre us ns:=by
 induction ns with
 |nil=>intro us r;rw [List.map_nil] at r;cases r;exact .nil
 |cons n ns ih =>
  intro us r
  rw [List.map_cons] at r
  cases r with
  |cons r1 r2 =>
   obtain ⟨t,e⟩:=r1
   subst e
   exact .cons n t (ih r2)
section
variable {X:Cx} {e:Expr} {te:TE} {lo hi:Option Expr} {tl th:TO} {pos p2:Pos}
theorem po_none:PO X none tNoPart:=by
 intro pins s σ H Q I h
 rw [evalPart_none]
 exact wpAny_pure ⟨none,H,I,.none,h⟩
theorem po_some(h:PE X e te):PO X (some e) (tPart te):=by
 intro pins s σ H Q I hw
 rw [evalPart_some]
 refine thn (h pins s σ H _ I hw) fun u s1 zz0=>?_
 obtain ⟨x,H1,I1,r1,q1⟩:=zz0
 obtain ⟨i,rfl,q⟩:=q1
 obtain ⟨t,rfl⟩:=r1
 exact ⟨some i,H1,I1,.int i t,q⟩
noncomputable def SlR(X:Cx)(r:V→Option Int→Option Int→Hp→VK→Prop):Prop :=
 ∀ (pins:List (Addr×Obj)) (s:Shared) (σ:St) (H:Hp) (x:V) (v vl vu:Value) (lo hi:Option Int) (sl:Addr) (Q:VK),Inv X pins σ H s→RelV x v→s.heap.IsSliceOf sl vl vu .none→IsPart vl lo→IsPart vu hi→r x lo hi H Q →
  ∃ T id,typeLookup (.type T) "__getitem__" = pure (some (.builtin id))∧s.TypeIs v T∧wpAny (model X.prog X.w) X.A (getItem v (.ref sl)) (EP X pins σ Q) X.xe s
theorem SlR.or{r r':V→Option Int→Option Int→Hp→VK→Prop}(h:SlR X r)(h':SlR X r'):SlR X (fun x lo hi H Q=>r x lo hi H Q∨r' x lo hi H Q):=by
 intro pins s σ H x v vl vu lo hi sl Q I rx hs pl pu q
 rcases q with q | q
 ·exact h pins s σ H x v vl vu lo hi sl Q I rx hs pl pu q
 ·exact h' pins s σ H x v vl vu lo hi sl Q I rx hs pl pu q
noncomputable def tSl(r:V→Option Int→Option Int→Hp→VK→Prop)(te:TE)(tl th:TO):TE:=fun σ H Q=>te σ H fun x H1=>tl σ H1 fun l H2=>th σ H2 fun u H3=>r x l u H3 Q
theorem pe_slice{r:V→Option Int→Option Int→Hp→VK→Prop}(hr:SlR X r)(he:PE X e te)(hl:PO X lo tl)(hu:PO X hi th):PE X (.Subscript e (.Slice lo hi none p2) pos) (tSl r te tl th):=by
 intro pins s σ H Q I h
 refine Subscript_ (thn (he pins s σ H _ I h) fun v s1 zz0=>?_)
 obtain ⟨x,H1,I1,r1,q1⟩:=zz0
 refine wpAny_Slice (thn (hl pins s1 σ H1 _ I1 q1) fun vl s2 ⟨l,H2,I2,pl,q2⟩=>thn (hu pins s2 σ H2 _ I2 q2) fun vu s3 zz0=>?_)
 obtain ⟨u,H3,I3,pu,q3⟩:=zz0
 rw [evalPart_none]
 refine wpAny_pure ?_
 have I4:Inv X pins σ H3 { s3 with heap:=s3.heap.push { cls:=.type "slice",data:=.fields #[vl,vu,.none] } }:=I3.kept (t':=s3.toks) fun b ob q=>Heap.get?_push_of_some _ q
 obtain ⟨T,id,hT,ht,hg⟩:=hr pins { s3 with heap:=s3.heap.push { cls:=.type "slice",data:=.fields #[vl,vu,.none] } } σ H3 x v vl vu l u s3.heap.objs.size Q I4 r1 (Heap.IsSliceOf.new ..) pl pu q3
 show wpAny (model X.prog X.w) X.A (subscriptTail e (.Slice lo hi none p2) v (.ref s3.heap.objs.size)) (EP X pins σ Q) X.xe { s3 with heap:=s3.heap.push { cls:=.type "slice",data:=.fields #[vl,vu,.none] } }
 exact tail_any (ops:=[.ref s3.heap.objs.size,v]) ht hT hg (by with_unfolding_all rfl)
noncomputable def cutV(xs:List V)(lo hi:Option Int):List V:=(xs.drop (HT.sIx xs.length 0 lo)).take (HT.sIx xs.length xs.length hi - HT.sIx xs.length 0 lo)
theorem cutV_length(xs:List V)(lo hi:Option Int):(cutV xs lo hi).length ≤ xs.length:=by
 unfold cutV
 rw [List.length_take,List.length_drop]
 omega
noncomputable def rSlT(K:PySem.W.Frag):V→Option Int→Option Int→Hp→VK→Prop:=fun x lo hi H Q=>∃ a xs,x = .ref a∧SqT K H a xs ∧
 ¬ (HT.sIx xs.length 0 lo=0∧HT.sIx xs.length xs.length hi=xs.length)∧∀ p,H p=none→Q (.ref p) (upd H p (.tup (cutV xs lo hi)))
theorem sl_tup:SlR X (rSlT X.K):=by
 intro pins s σ H x v vl vu lo hi sl Q I rx hs pl pu h
 obtain ⟨a,xs,rfl,hx,hw,q⟩:=h
 cases rx
 obtain ⟨its,r,ht,hz⟩:=I.tuple hx
 have hlen:its.toArray.size=xs.length:=by rw [List.size_toArray];exact r.length.symm
 refine ⟨"tuple",_,PyProof.Rows.slot_tuple_getitem.lookup,ht.typeIs,?_⟩
 refine HT.getItem_tuple_cut ht hs pl pu (by rw [hlen];exact hw) ?_ (by rw [hlen];exact hz)
 rw [hlen]
 refine ⟨.ref s.heap.objs.size,_,I.laid (t':=s.toks) (o:=.tup (cutV xs lo hi)) (fun b ob q=>Heap.get?_push_of_some _ q) (Nat.le_refl _) ?_,rfl,q _ (I.hok.fresh (Nat.le_refl _))⟩
 exact ⟨Nat.le_trans (cutV_length xs lo hi) hz,_,(r.drop (HT.sIx xs.length 0 lo)).take (HT.sIx xs.length xs.length hi - HT.sIx xs.length 0 lo),IsTup.new _ _⟩
noncomputable def rCatT(K:PySem.W.Frag):R2:=fun x y H Q=>∃ a b xs ys,x = .ref a∧y = .ref b∧SqT K H a xs∧SqT K H b ys∧xs ≠ []∧xs.length + ys.length ≤ sizeLine ∧
 (ys=[]→Q (.ref a) H)∧(ys ≠ []→∀ p,H p=none→Q (.ref p) (upd H p (.tup (xs ++ ys))))
theorem Vals.nil_iff{xs:List V}{us:List Value}(r:Vals xs us):us=[] ↔ xs=[]:=by
 cases r with
 |nil=>simp
 |cons _ _=>simp
theorem op_catT:OpR X (binaryOp .Add) (rCatT X.K):=by
 intro pins s σ H x y v u Q I rx ry h
 obtain ⟨a,b,xs,ys,rfl,rfl,ha,hb,hx,hz,q1,q2⟩:=h
 cases rx
 cases ry
 obtain ⟨its,r1,p1,_⟩:=I.tuple ha
 obtain ⟨its2,r2,p2,_⟩:=I.tuple hb
 refine HT.cat_tup p1 p2 (fun z=>hx (r1.nil_iff.mp z)) (fun z=>⟨.ref a,H,I,rfl,q1 (r2.nil_iff.mp z)⟩) (fun z=>?_) (by rw [← r1.length,← r2.length];exact hz)
 refine ⟨.ref s.heap.objs.size,_,I.laid (t':=s.toks) (o:=.tup (xs ++ ys)) (fun b ob q=>Heap.get?_push_of_some _ q) (Nat.le_refl _) ?_,rfl,q2 (fun w=>z (r2.nil_iff.mpr w)) _ (I.hok.fresh (Nat.le_refl _))⟩
 exact ⟨by rw [List.length_append];exact hz,_,r1.append r2,IsTup.new _ _⟩
end
end L2
namespace L2
open PySem PySem.Spec PyProof.Rows
noncomputable def ixN(n:Nat)(i:Int):Option Nat:=if 0 ≤ i then (if i < n then some i.toNat else none) else if -(n:Int) ≤ i then some (i + n).toNat else none
noncomputable def atI{α:Type}(xs:List α)(i:Int):Option α:=(ixN xs.length i).bind fun j=>xs[j]?
theorem ixN_seq{n:Nat}{i:Int}{j:Nat}(h:ixN n i=some j):seqIndex? i n=some j∧j < n∧-(n:Int) ≤ i∧i < n:=by
 unfold ixN at h
 by_cases h0:0 ≤ i
 ·rw [if_pos h0] at h
  by_cases h1:i < n
  ·rw [if_pos h1] at h
   have e:i.toNat=j:=Option.some.inj h
   exact ⟨by rw [seqIndex_of h0 h1,e],by omega,by omega,h1⟩
  ·rw [if_neg h1] at h;cases h
 ·rw [if_neg h0] at h
  by_cases h1:-(n:Int) ≤ i
  ·rw [if_pos h1] at h
   have e:(i + n).toNat=j:=Option.some.inj h
   exact ⟨by rw [seqIndex_neg (by omega) h1,e],by omega,h1,by omega⟩
  ·rw [if_neg h1] at h;cases h
theorem atI_get{α:Type}{xs:List α}{i:Int}{v:α}(h:atI xs i=some v):∃ j,seqIndex? i xs.length=some j∧xs[j]?=some v∧j < xs.length∧-(xs.length:Int) ≤ i∧i < xs.length:=by
 unfold atI at h
 cases e:ixN xs.length i with
 |none=>rw [e] at h;cases h
 |some j =>
  rw [e] at h
  obtain ⟨h1,h2,h3,h4⟩:=ixN_seq e
  exact ⟨j,h1,h,h2,h3,h4⟩
noncomputable def PlainIx(b:Expr):Prop:=∀ o i,subscripted b false o i=operate [o,i] (getItem o i)
noncomputable def IxR(X:Cx)(r:R2):Prop :=
 ∀ (value slice:Expr) (pins:List (Addr×Obj)) (s:Shared) (σ:St) (H:Hp) (x y:V) (v u:Value) (Q:VK),Inv X pins σ H s→RelV x v→RelV y u→r x y H Q →
  subscripted slice false v u=operate [v,u] (getItem v u)→wpAny (model X.prog X.w) X.A (subscriptTail value slice v u) (EP X pins σ Q) X.xe s
noncomputable def MtR(X:Cx)(id:String)(r:V→List V→Hp→VK→Prop):Prop :=
 ∀ (pins:List (Addr×Obj)) (s:Shared) (σ:St) (H:Hp) (x:V) (xs:List V) (v:Value) (us:List Value) (Q:VK),Inv X pins σ H s→RelV x v→Vals xs us→r x xs H Q →
  wpAny (model X.prog X.w) X.A (call (.builtin id) (v :: us)) (EP X pins σ Q) X.xe s
section
variable {X:Cx} {a b:Expr} {ta tb:TE} {pos:Pos}
theorem IxR.or{r r':R2}(h:IxR X r)(h':IxR X r'):IxR X (fun x y H Q=>r x y H Q∨r' x y H Q):=by
 intro value slice pins s σ H x y v u Q I rx ry q hs
 rcases q with q | q
 ·exact h value slice pins s σ H x y v u Q I rx ry q hs
 ·exact h' value slice pins s σ H x y v u Q I rx ry q hs
theorem pe_ix{r:R2}(hr:IxR X r)(ha:PE X a ta)(hb:PE X b tb)(hs:PlainIx b):PE X (.Subscript a b pos) (tOp r ta tb):=by
 intro pins s σ H Q I h
 exact Subscript_ (binT ha hb I h fun v u s2 x y H2 I2 rx ry q=>hr a b pins s2 σ H2 x y v u Q I2 rx ry q (hs _ _))
noncomputable def rIxL(K:PySem.W.Frag):R2:=fun x y H Q=>∃ p xs i v,x = .ref p∧y = .int i∧SqL K H p xs∧atI xs i=some v∧Q v H
noncomputable def rIxT(K:PySem.W.Frag):R2:=fun x y H Q=>∃ p xs i v,x = .ref p∧y = .int i∧SqT K H p xs∧atI xs i=some v∧Q v H
noncomputable def rIxS:R2:=fun x y H Q=>∃ z i c,x = .str z∧y = .int i∧z.length ≤ sizeLine∧atI z.cps.toList i=some c∧Q (.str ⟨#[c]⟩) H
theorem ix_list:IxR X (rIxL X.K):=by
 intro value slice pins s σ H x y v u Q I rx ry h hs
 obtain ⟨p,xs,i,z,rfl,rfl,hq,he,q⟩:=h
 cases rx
 obtain ⟨t,rfl⟩:=ry
 obtain ⟨its,r,pl,hz⟩:=I.list hq
 obtain ⟨j,h1,h2,h3,h4,h5⟩:=atI_get he
 obtain ⟨w,ew,rw'⟩:=r.get h2
 have hl:=r.length
 have hn:=line63
 have fin:EP X pins σ Q w s:=⟨z,H,I,rw',q⟩
 by_cases h0:0 ≤ i
 ·have hj:i.toNat=j:=by
   rw [seqIndex_of h0 h5] at h1
   exact Option.some.inj h1
  exact item_listR pl.isList h0 (by omega) (by rw [hj];simpa using ew) fin hs
 ·have hj:(i + (its.toArray.size:Int)).toNat=j:=by
   rw [seqIndex_neg (by omega) h4] at h1
   rw [List.size_toArray,← hl]
   exact Option.some.inj h1
  exact subscriptTail_builtinR (x:=w) pl.isList.typeIs slot_list_getitem.lookup
   (wpAny_getItem_list_neg (Q:=fun r s'=>r=w∧EP X pins σ Q r s') pl.isList (by omega) (by rw [List.size_toArray] <;> omega) (by omega) (by rw [hj];simpa using ew) ⟨rfl,fin⟩) hs
theorem ix_tup:IxR X (rIxT X.K):=by
 intro value slice pins s σ H x y v u Q I rx ry h hs
 obtain ⟨p,xs,i,z,rfl,rfl,hq,he,q⟩:=h
 cases rx
 obtain ⟨t,rfl⟩:=ry
 obtain ⟨its,r,pl,hz⟩:=I.tuple hq
 obtain ⟨j,h1,h2,h3,h4,h5⟩:=atI_get he
 obtain ⟨w,ew,rw'⟩:=r.get h2
 have hl:=r.length
 have hn:=line63
 have fin:EP X pins σ Q w s:=⟨z,H,I,rw',q⟩
 exact subscriptTail_builtinR (x:=w) pl.typeIs slot_tuple_getitem.lookup
  (getItem_tuple (j:=j) (Q:=fun r s'=>r=w∧EP X pins σ Q r s') pl (by omega) (by omega) (by rw [List.size_toArray,← hl];exact h1) (by simpa using ew) ⟨rfl,fin⟩) hs
theorem ix_str:IxR X rIxS:=by
 intro value slice pins s σ H x y v u Q I rx ry h hs
 obtain ⟨z,i,c,rfl,rfl,hz,he,q⟩:=h
 obtain ⟨t,rfl⟩:=rx
 obtain ⟨t',rfl⟩:=ry
 obtain ⟨j,h1,h2,h3,h4,h5⟩:=atI_get he
 have hl:z.cps.toList.length=z.length:=by simp [Str.length]
 rw [hl] at h1 h4 h5
 have hn:=line63
 exact tail_any (typeIs_str s z t) slot_str_getitem.lookup (getItem_str (c:=c) (by
  have e1:decide (i < -(2 ^ 63:Int))=false:=decide_eq_false (by omega)
  have e2:decide (i ≥ 2 ^ 63)=false:=decide_eq_false (by omega)
  rw [e1,e2,Bool.or_false]) (by rw [h1];simpa using h2) ⟨.str ⟨#[c]⟩,H,I.tok _,⟨_,rfl⟩,q⟩) hs
noncomputable def rIx(K:PySem.W.Frag):R2:=fun x y H Q=>rIxL K x y H Q∨rIxT K x y H Q∨rIxS x y H Q
theorem ix_seq:IxR X (rIx X.K):=ix_list.or (ix_tup.or ix_str)
theorem mapSeq_set(its:List Value)(n j:Nat)(u:Value):Obj.mapSeq (·.setIfInBounds j u) { cls:=.type "list",data:=.seq its.toArray n }={ cls:=.type "list",data:=.seq (its.set j u).toArray n }:=by
 simp [Obj.mapSeq]
theorem Inv.lst{pins:List (Addr×Obj)}{σ:St}{H:Hp}{s:Shared}{p:Addr}{xs:List V}(I:Inv X pins σ H s)(h:H p=some (.lst xs)) :
  ∃ (its:List Value) (n:Nat),Vals xs its∧s.heap.get? p=some { cls:=.type "list",data:=.seq its.toArray n }∧xs.length ≤ sizeLine:=by
 obtain ⟨z,its,n,r,e⟩:=I.hok p _ h
 exact ⟨its,n,r,e,z⟩
theorem Inv.lstUpd{pins:List (Addr×Obj)}{σ:St}{H:Hp}{s:Shared}{p:Addr}{xs ys:List V}{its its':List Value}{n n':Nat}{f:Obj→Obj}(I:Inv X pins σ H s)(h:H p=some (.lst xs))
  (ho:s.heap.get? p=some { cls:=.type "list",data:=.seq its.toArray n }) (hf:f { cls:=.type "list",data:=.seq its.toArray n }={ cls:=.type "list",data:=.seq its'.toArray n' }) (r:Vals ys its') (hz:ys.length ≤ sizeLine) (t:Nat) :
  Inv X pins σ (upd H p (.lst ys)) { s with heap:=s.heap.update p f,toks:=t }:=by
 have e:(s.heap.update p f).get? p=some { cls:=.type "list",data:=.seq its'.toArray n' }:=by
  rw [Heap.get?_update_self f ho (by rw [hf] <;> rfl),hf]
 refine I.write (x:=p) (e:=p) (by rw [h];trivial) (.inl rfl) (fun b u hb q=>(Heap.get?_update_other _ _ (Ne.symm hb)).trans q) ⟨_,e⟩ ?_
 exact ⟨hz,its',n',r,e⟩
noncomputable def rSetL:V→V→V→Hp→(Hp→Prop)→Prop:=fun o i v H Q=>∃ p xs k j,o = .ref p∧i = .int k∧H p=some (.lst xs)∧ixN xs.length k=some j∧Q (upd H p (.lst (xs.set j v)))
theorem set_list:PSet X rSetL:=by
 intro pins s σ H o i v ov iv u Q I ro ri rv h
 obtain ⟨p,xs,k,j,rfl,rfl,hp,hj,q⟩:=h
 cases ro
 obtain ⟨t,rfl⟩:=ri
 obtain ⟨its,n,r,ho,hz⟩:=I.lst hp
 obtain ⟨h1,h2,h3,h4⟩:=ixN_seq hj
 have hl:=r.length
 have hn:=line63
 have I':Inv X pins σ (upd H p (.lst (xs.set j v))) { s with heap:=s.heap.update p (Obj.mapSeq (·.setIfInBounds j u)) } :=
  I.lstUpd hp ho (mapSeq_set its n j u) (r.set rv j) (by rw [List.length_set];exact hz) s.toks
 by_cases h0:0 ≤ k
 ·have hk:k.toNat=j:=by
   rw [seqIndex_of h0 h4] at h1
   exact Option.some.inj h1
  exact PySem.W.ki_setAt ho h0 (by omega) (by rw [List.size_toArray,← hl];exact h4) (by rw [hk];exact ⟨_,I',q⟩)
 ·have hk:(k + (its.toArray.size:Int)).toNat=j:=by
   rw [seqIndex_neg (by omega) h3] at h1
   rw [List.size_toArray,← hl]
   exact Option.some.inj h1
  exact PySem.W.ki_setBack ho (by omega) (by rw [List.size_toArray,← hl];exact h3) (by omega) (by rw [hk];exact ⟨_,I',q⟩)
theorem slice_bounds(lo hi:Option Int)(n:Nat):(sliceBounds lo hi none n).1=((HT.sIx n 0 lo:Nat):Int)∧(sliceBounds lo hi none n).2.1=((HT.sIx n n hi:Nat):Int)∧(sliceBounds lo hi none n).2.2=1:=by
 refine ⟨?_,?_,rfl⟩
 ·cases lo with
  |none=>simp [sliceBounds,HT.sIx]
  |some i =>
   simp only [sliceBounds,HT.sIx,Option.getD_none,show (1:Int) > 0 by decide,if_true]
   by_cases h:i < 0
   ·simp only [h,if_true] <;> omega
   ·simp only [h,if_false] <;> omega
 ·cases hi with
  |none=>simp [sliceBounds,HT.sIx]
  |some i =>
   simp only [sliceBounds,HT.sIx,Option.getD_none,show (1:Int) > 0 by decide,if_true]
   by_cases h:i < 0
   ·simp only [h,if_true] <;> omega
   ·simp only [h,if_false] <;> omega
theorem slicePick_cut(its:List Value)(lo hi:Option Int):slicePick its.toArray lo hi none=((its.drop (HT.sIx its.length 0 lo)).take (HT.sIx its.length its.length hi - HT.sIx its.length 0 lo)).toArray:=by
 obtain ⟨h1,h2,h3⟩:=slice_bounds lo hi its.toArray.size
 unfold slicePick
 rw [h1,h2,h3]
 simp only [sliceRange_one,pick_run,List.size_toArray] <;> rfl
noncomputable def rSlL(K:PySem.W.Frag):V→Option Int→Option Int→Hp→VK→Prop:=fun x lo hi H Q=>∃ a xs,x = .ref a∧SqL K H a xs∧∀ p,H p=none→Q (.ref p) (upd H p (.lst (cutV xs lo hi)))
theorem sl_list:SlR X (rSlL X.K):=by
 intro pins s σ H x v vl vu lo hi sl Q I rx hs pl pu h
 obtain ⟨a,xs,rfl,hx,q⟩:=h
 cases rx
 obtain ⟨its,r,ht,hz⟩:=I.list hx
 have hlen:=r.length
 refine ⟨"list",_,slot_list_getitem.lookup,ht.isList.typeIs,?_⟩
 refine wpAny_getItem_list_slice ht.isList hs pl pu .none (by simp) ?_ (by rw [List.size_toArray] <;> omega)
 rw [slicePick_cut,← hlen]
 refine ⟨.ref s.heap.objs.size,_,I.laid (t':=s.toks) (o:=.lst (cutV xs lo hi)) (fun b ob q=>Heap.get?_push_of_some _ q) (Nat.le_refl _) ?_,rfl,q _ (I.hok.fresh (Nat.le_refl _))⟩
 exact ⟨Nat.le_trans (cutV_length xs lo hi) hz,_,0,(r.drop (HT.sIx xs.length 0 lo)).take (HT.sIx xs.length xs.length hi - HT.sIx xs.length 0 lo),Heap.get?_push_size _ rfl⟩
theorem call_list_of:CallR X (.type "list") (fun xs H Q=>∃ p ys,xs=[.ref p]∧(SqL X.K H p ys∨SqT X.K H p ys)∧∀ l,H l=none→Q (.ref l) (upd H l (.lst ys))):=by
 intro pins s σ H xs us Q I r h
 obtain ⟨p,ys,rfl,hq,q⟩:=h
 obtain ⟨u,rfl,rx⟩:=vals1 r
 cases rx
 have fin:∀ (its:List Value),Vals ys its→ys.length ≤ sizeLine→∀ (h':Heap) (c':Nat),(∀ b o',s.heap.get? b=some o'→h'.get? b=some o') →
   h'.get? s.heap.objs.size=some { cls:=.type "list",dict:=none,data:=.seq its.toArray c',slots:=#[] }→EP X pins σ Q (.ref s.heap.objs.size) { s with heap:=h' }:=fun its r' hz h' c' kp e =>
  ⟨.ref s.heap.objs.size,_,I.laid (t':=s.toks) kp (Nat.le_refl _) (show ObjOk X.prog X.w _ h' _ (.lst ys) from ⟨hz,its,c',r',e⟩),rfl,q _ (I.hok.fresh (Nat.le_refl _))⟩
 rcases hq with hq | hq
 ·obtain ⟨its,r',pl,hz⟩:=I.list hq
  have hlen:=r'.length
  obtain ⟨o,ho,hc,n,hd⟩:=pl.isList
  exact call_list_seq p (.inl rfl) ho hc hd (fun h' c' kp e=>fin its r' hz h' c' kp e) (by simp only [List.size_toArray] <;> omega)
 ·obtain ⟨its,r',pl,hz⟩:=I.tuple hq
  have hlen:=r'.length
  obtain ⟨o,ho,hc,n,hd⟩:=pl
  exact call_list_seq p (.inr rfl) ho hc hd (fun h' c' kp e=>fin its r' hz h' c' kp e) (by simp only [List.size_toArray] <;> omega)
theorem call_tuple_of:CallR X (.type "tuple") (fun xs H Q=>∃ p ys,xs=[.ref p]∧((SqL X.K H p ys∧∀ l,H l=none→Q (.ref l) (upd H l (.tup ys)))∨(SqT X.K H p ys∧Q (.ref p) H))):=by
 intro pins s σ H xs us Q I r h
 obtain ⟨p,ys,rfl,h⟩:=h
 obtain ⟨u,rfl,rx⟩:=vals1 r
 cases rx
 rcases h with ⟨hq,q⟩ | ⟨hq,q⟩
 ·obtain ⟨its,r',pl,hz⟩:=I.list hq
  have hlen:=r'.length
  refine call_tuple_list pl.isList (fun h' kp=>?_) (by simp only [List.size_toArray] <;> omega)
  have I1:Inv X pins σ H { s with heap:=h' }:=I.kept (t':=s.toks) kp
  have I2:Inv X pins σ (upd H h'.objs.size (.tup ys)) { s with heap:=h'.push { cls:=.type "tuple",data:=.seq its.toArray } } :=
   I1.laid (t':=s.toks) (fun b o e=>Heap.get?_push_of_some _ e) (Nat.le_refl _) (show ObjOk X.prog X.w _ _ _ (.tup ys) from ⟨hz,its,r',IsTup.new _ _⟩)
  exact ⟨.ref h'.objs.size,_,I2,rfl,q _ (I1.hok.fresh (Nat.le_refl _))⟩
 ·obtain ⟨its,r',pl,hz⟩:=I.tuple hq
  exact call_tuple_same pl ⟨.ref p,H,I,rfl,q⟩
noncomputable def tyV(K:PySem.W.Frag)(T:String)(x:V)(H:Hp):Prop:=match x with
 |.str _=>T = "str"
 |.int _=>T = "int"
 |.ref p=>(T = "list"∧∃ xs,SqL K H p xs)∨(T = "tuple"∧∃ o,K.lookup p=some o∧o.cls = .type "tuple"∧o.dict=none) ∨
   (T = "dict"∧((∃ kvs,H p=some (.dK kvs))∨∃ kvs,H p=some (.dT kvs)))∨(T = "set"∧∃ S n,H p=some (.set S n))
 |_=>False
theorem tyV_is{pins:List (Addr×Obj)}{σ:St}{H:Hp}{s:Shared}{T:String}{x:V}{v:Value}(I:Inv X pins σ H s)(r:RelV x v)(ty:tyV X.K T x H) :
  s.TypeIs v T∧∀ a,v = .ref a→∃ ob,s.heap.get? a=some ob∧ob.dict=none:=by
 cases x with
 |str z =>
  obtain ⟨t,rfl⟩:=r
  cases (show T = "str" from ty)
  exact ⟨typeIs_str s z t,fun _ e=>nomatch e⟩
 |int i =>
  obtain ⟨t,rfl⟩:=r
  cases (show T = "int" from ty)
  exact ⟨typeIs_int s i t,fun _ e=>nomatch e⟩
 |ref p =>
  cases r
  rcases ty with ⟨rfl,xs,hq⟩ | ⟨rfl,o,hk,hc,hd⟩ | ⟨rfl,hk⟩ | ⟨rfl,S,n,hk⟩
  ·obtain ⟨its,_,pl,_⟩:=I.list hq
   refine ⟨pl.isList.typeIs,fun a e=>?_⟩
   cases e
   obtain ⟨o,n,e,c,hd,_⟩:=pl
   exact ⟨o,e,hd⟩
  ·refine ⟨⟨o,I.kIn p o hk,hc⟩,fun a e=>?_⟩
   cases e
   exact ⟨o,I.kIn _ o hk,hd⟩
  ·have z:∃ o,s.heap.get? p=some o∧o.ExactDict:=by
    rcases hk with ⟨kvs,hk⟩ | ⟨kvs,hk⟩
    ·obtain ⟨_,_,_,_,o,_,_,e,ex,_⟩:=I.hok p _ hk
     exact ⟨o,e,ex⟩
    ·obtain ⟨_,_,_,_,o,_,_,e,ex,_⟩:=I.hok p _ hk
     exact ⟨o,e,ex⟩
   obtain ⟨o,e,ex⟩:=z
   refine ⟨⟨o,e,ex.1⟩,fun a e2=>?_⟩
   cases e2
   exact ⟨o,e,ex.2.1⟩
  ·obtain ⟨o,_,_,_,e,ex,_⟩:=I.hok p _ hk
   refine ⟨⟨o,e,ex.1⟩,fun a e2=>?_⟩
   cases e2
   exact ⟨o,e,ex.2.1⟩
 |_=>exact False.elim ty
noncomputable def tBM0(K:PySem.W.Frag)(T:String)(r:V→List V→Hp→VK→Prop)(to:TE):TE:=fun σ H Q=>to σ H fun x H1=>tyV K T x H1∧r x [] H1 Q
noncomputable def tBM(K:PySem.W.Frag)(T:String)(r:V→List V→Hp→VK→Prop)(to:TE)(t:TA):TE:=fun σ H Q=>to σ H fun x H1=>tyV K T x H1∧t σ H1 fun xs H2=>r x xs H2 Q
variable {o e:Expr} {es:List Expr} {to:TE} {t:TA} {name:Str} {apos cpos:Pos} {T id:String} {r:V→List V→Hp→VK→Prop}
theorem pe_bm0(pa:PlainAttrs T)(slot:Slot T name id)(hty:typeOf (.builtin id)=pure (.type "method_descriptor"))(hm:MtR X id r)(ho:PE X o to)
  (hbase:attributeBase o name X.env (eval o X.env)=eval o X.env:=by rfl) (hline:(apos.endLine == cpos.line)=true:=by rfl):PE X (.Call (.Attribute o name apos) [] [] cpos) (tBM0 X.K T r to):=by
 intro pins s σ H Q I h
 refine wpAny_Call_method0_late hbase hline (thn (ho pins s σ H _ I h) fun v s1 zz0=>?_)
 obtain ⟨x,H1,I1,r1,ty,q1⟩:=zz0
 obtain ⟨h1,h2⟩:=tyV_is I1 r1 ty
 exact ⟨T,id,pa,slot,hty,h1,h2,Calls.callWith_builtin rfl (PySem.evalArgs_none (hm pins s1 σ H1 x [] v [] Q I1 r1 .nil q1))⟩
theorem pe_bm(pa:PlainAttrs T)(slot:Slot T name id)(hty:typeOf (.builtin id)=pure (.type "method_descriptor"))(hm:MtR X id r)(ho:PE X o to)(ha:PA X (e :: es) t)
  (hbase:attributeBase o name X.env (eval o X.env)=eval o X.env:=by rfl)
  (hfew:((backTo cpos (starEach (e :: es) X.env)).all (fun x=>!x.1) && (backToKw cpos (keywordEach [] X.env)).all (fun x=>x.1.isSome)
   && decide ((e :: es).length + ([]:List Keyword).length + (if ([]:List Keyword).isEmpty then 0 else 1) < 30))=true:=by rfl)
  (hline:(apos.endLine == cpos.line)=true:=by rfl) (hs:starEach (e :: es) X.env=(false,eval e X.env) :: starEach es X.env:=by rfl) (hplain:(backTo cpos (starEach es X.env)).any (·.1)=false:=by rfl) :
  PE X (.Call (.Attribute o name apos) (e :: es) [] cpos) (tBM X.K T r to t):=by
 intro pins s σ H Q I h
 refine wpAny_Call_method_late hbase hfew hline rfl (thn (ho pins s σ H _ I h) fun v s1 zz0=>?_)
 obtain ⟨x,H1,I1,r1,ty,q1⟩:=zz0
 obtain ⟨h1,h2⟩:=tyV_is I1 r1 ty
 refine ⟨T,id,pa,slot,hty,h1,h2,?_⟩
 have hA:=ha cpos pins s1 σ H1 _ I1 q1
 rw [hs] at hA ⊢
 refine Calls.callWith_builtin (by show (false || (backTo cpos (starEach es X.env)).any (·.1))=false;rw [hplain] <;> rfl) (Calls.evalArgs_plain ?_)
 exact thn hA fun us s2 ⟨vs,H2,I2,r2,q2⟩=>hm pins s2 σ H2 x vs v us Q I2 r1 r2 q2
end
end L2
namespace L2
open PySem PySem.Spec PyProof.Rows
noncomputable def MtM(X:Cx)(id:String)(r:V→List V→Hp→VK→Prop):Prop :=
 ∀ (pins:List (Addr×Obj)) (s:Shared) (σ:St) (H:Hp) (x:V) (xs:List V) (v:Value) (us:List Value) (Q:VK),Inv X pins σ H s→RelV x v→Vals xs us→r x xs H Q →
  wpAny (model X.prog X.w) X.A (call (.builtin id) (v :: us)) (EP X pins σ Q) X.xe s
theorem Vals.one{x:V}{us:List Value}(h:Vals [x] us):∃ u,us=[u]∧RelV x u:=by
 cases h with
 |cons r t=>cases t;exact ⟨_,rfl,r⟩
section
variable {X:Cx} {pins:List (Addr×Obj)} {σ:St} {H:Hp} {s:Shared} {l b:Addr} {xs ys zs:List V}
theorem Inv.lset{its its':List Value}{n:Nat}{f:Array Value→Array Value}{t':Nat}(I:Inv X pins σ H s)(hH:H l=some (.lst xs))
  (e:s.heap.get? l=some { cls:=.type "list",data:=.seq its.toArray n }) (hf:f its.toArray=its'.toArray) (hv:Vals ys its') (hz:ys.length ≤ sizeLine) :
  Inv X pins σ (upd H l (.lst ys)) { s with heap:=s.heap.update l (Obj.mapSeq f),toks:=t' }:=by
 have q:=PySem.IsL.update e f
 rw [hf] at q
 refine I.write (x:=l) (e:=l) (by rw [hH];exact trivial) (.inl rfl) (fun b' u hb hu=>(Heap.get?_update_other s.heap (Obj.mapSeq f) (Ne.symm hb)).trans hu) ⟨_,q⟩ ?_
 exact ⟨hz,its',_,hv,q⟩
theorem Inv.lnew{its:List Value}{t':Nat}(I:Inv X pins σ H s)(hv:Vals ys its)(hz:ys.length ≤ sizeLine) :
  Inv X pins σ (upd H s.heap.objs.size (.lst ys)) { s with heap:=s.heap.push { cls:=.type "list",data:=.seq its.toArray },toks:=t' } :=
 I.laid (fun _ _ q=>Heap.get?_push_of_some _ q) (Nat.le_refl _) ⟨hz,its,0,hv,Heap.get?_push_size _ rfl⟩
theorem Inv.fresh(I:Inv X pins σ H s):H s.heap.objs.size=none:=I.hok.fresh (Nat.le_refl _)
theorem Inv.lstM(I:Inv X pins σ H s)(hH:H l=some (.lst xs)):xs.length ≤ sizeLine∧∃ (its:List Value) (n:Nat),Vals xs its∧xs.length=its.length∧s.heap.get? l=some { cls:=.type "list",data:=.seq its.toArray n }:=by
 obtain ⟨z,its,n,r,e⟩:=I.hok l _ hH
 exact ⟨z,its,n,r,r.length,e⟩
theorem notLongL{n:Nat}(h:n ≤ sizeLine):Builtin.List.listTooLong n=false:=by
 unfold Builtin.List.listTooLong
 exact decide_eq_false (by omega)
end
section
variable {X:Cx}
noncomputable def rAppend:V→List V→Hp→VK→Prop:=fun x vs H Q=>∃ l xs y,x = .ref l∧vs=[y]∧H l=some (.lst xs)∧xs.length < sizeLine∧Q .non (upd H l (.lst (xs ++ [y])))
theorem mt_append:MtM X "list.append" rAppend:=by
 intro pins s σ H x vs v us Q I rx rv h
 obtain ⟨l,xs,y,rfl,rfl,hH,hz,q⟩:=h
 cases rx
 obtain ⟨u,rfl,ru⟩:=rv.one
 obtain ⟨z,its,n,r,hl,e⟩:=I.lstM hH
 refine call_meets F.slot_list_append ⟨_,e,rfl⟩ F.entry_list_append (F.args_list_append_2 _ _) (PySem.list_append l its.toArray n u (by rw [List.size_toArray];omega)) ⟨e,?_⟩
 refine ⟨.non,_,I.lset (its':=its ++ [u]) hH e (by simp) (r.append (.cons ru .nil)) ?_,rfl,q⟩
 rw [List.length_append,List.length_singleton]
 omega
noncomputable def rExtend:V→List V→Hp→VK→Prop:=fun x vs H Q=>∃ l b xs zs,x = .ref l∧vs=[.ref b]∧H l=some (.lst xs)∧H b=some (.lst zs)∧xs.length + zs.length ≤ sizeLine∧Q .non (upd H l (.lst (xs ++ zs)))
theorem mt_extend:MtM X "list.extend" rExtend:=by
 intro pins s σ H x vs v us Q I rx rv h
 obtain ⟨l,b,xs,zs,rfl,rfl,hH,hB,hz,q⟩:=h
 cases rx
 obtain ⟨u,rfl,ru⟩:=rv.one
 cases ru
 obtain ⟨z,its,n,r,hl,e⟩:=I.lstM hH
 obtain ⟨z2,its2,n2,r2,hl2,e2⟩:=I.lstM hB
 have hsz:its.toArray.size + its2.toArray.size ≤ sizeLine:=by rw [List.size_toArray,List.size_toArray];omega
 have hlong:¬ (!its.toArray.isEmpty && Builtin.List.listTooLong (its.toArray.size + its2.toArray.size))=true:=by
  rw [notLongL hsz,Bool.and_false]
  exact Bool.false_ne_true
 refine call_meets F.slot_list_extend ⟨_,e,rfl⟩ F.entry_list_extend (F.args_list_extend_2 _ _)
  (AutoSeq1.list_extend_list_list_0 l its.toArray n b its2.toArray n2 hlong (by rw [List.size_toArray];omega) (by omega)) ⟨e,e2,?_⟩
 refine ⟨.non,_,I.lset (its':=its ++ its2) hH e (by simp) (r.append r2) ?_,rfl,q⟩
 rw [List.length_append]
 omega
noncomputable def rCat:R2:=fun x y H Q=>∃ l b xs zs,x = .ref l∧y = .ref b∧H l=some (.lst xs)∧H b=some (.lst zs)∧xs.length + zs.length ≤ sizeLine∧∀ p,H p=none→Q (.ref p) (upd H p (.lst (xs ++ zs)))
theorem op_cat:OpR X (binaryOp .Add) rCat:=by
 intro pins s σ H x y v u Q I rx ry h
 obtain ⟨l,b,xs,zs,rfl,rfl,hH,hB,hz,q⟩:=h
 cases rx
 cases ry
 obtain ⟨z,its,n,r,hl,e⟩:=I.lstM hH
 obtain ⟨z2,its2,n2,r2,hl2,e2⟩:=I.lstM hB
 refine PySem.P.add_list e e2 ?_ (by rw [List.size_toArray,List.size_toArray];omega)
 have ea:its.toArray ++ its2.toArray=(its ++ its2).toArray:=by simp
 rw [ea]
 exact ⟨.ref _,_,I.lnew (t':=s.toks) (r.append r2) (by rw [List.length_append];omega),rfl,q _ I.fresh⟩
end
section
variable {prog:Program} {w:World} {A:Around} {E:Value→Shared→Prop} {s:Shared}
end
section
variable {X:Cx}
end
end L2
namespace Att
open PySem PySem.W PySem.Calls PyProof.Rows
theorem ints_of_wellAll{P:Params}{h:Heap}:∀ (ns:List Int) (vs:List Value),WellAll P h vs (ns.map WData.int)→IntsAre vs ns:=by
 intro ns
 induction ns with
 |nil =>
  intro vs w
  rw [List.map_nil] at w
  cases w
  exact .nil
 |cons n ns ih =>
  intro vs w
  rw [List.map_cons] at w
  cases w with
  |cons a b =>
   cases a
   exact .cons _ _ (ih _ b)
theorem script_of{l:OpenLaw}{n:Nat}(hn:l.most=some n){P:Params}{h:Heap}{args:List WData}{vals:List Value}
  (hpre:l.row.toRowW.claim.pre args=true) (hwl:WellAll P h vals args) :
  ∃ a vs ns,vals=[Value.ref a]∧args=[WData.list (ns.map WData.int)]∧h.get? a=some { cls:=.type "list",data:=.seq vs.toArray }∧IntsAre vs ns∧ns.length ≤ n:=by
 have hsh:WShape.hasAll [] args [.list .int]=true:=(pre_splitW hpre).1
 have hc:l.pre.holds [] { args:=args }=true:=(pre_splitW hpre).2
 obtain ⟨d,r,rfl,h1,h2⟩:=hasAllW_cons hsh
 obtain rfl:=hasAllW_nil h2
 obtain ⟨xs,rfl,h3⟩:=hasW_list h1
 obtain ⟨ns,rfl⟩:=items_int h3
 have hlen:ns.length ≤ n:=by
  unfold OpenLaw.pre at hc
  have h4:(WTm.not (.lt (.lit (.int (n:Int))) (.len (.arg 0)))).holds [] { args:=[.list (ns.map .int)] }=true:=by
   have h4:=(holds_andW hc).1
   rw [hn] at h4
   exact h4
  have h5:=condW_of h4 (w_not (w_lt w_lit (w_len_list (w_arg rfl))))
  rw [List.length_map] at h5
  refine Nat.le_of_not_lt fun q=>?_
  have q':(n:Int) < ((ns.length:Nat):Int):=by omega
  first
   |(rw [decide_eq_true q'] at h5;exact absurd h5 (by decide))
   |(simp at h5;omega)
 cases hwl with
 |cons w1 w2 =>
  cases w2
  cases w1 with
  |list ho hall=>exact ⟨_,_,ns,rfl,rfl,ho,ints_of_wellAll ns _ hall,hlen⟩
theorem post_true(l:OpenLaw)(args:List WData):l.row.toRowW.claim.post args (.bool true) args=true :=
 postW_of (r:=l.row.toRowW) (X:=(true == true))
  (show WShape.has [] (.bool true) .bool=true by first | rfl | decide | simp [WShape.has,WShape.arms,WShape.armsAll])
  (show (WTm.eq .res (.lit (.bool true))).value [] { args:=args,res:=some (.bool true),after:=args }=some (.bool (true == true)) from w_eq_bool (w_res rfl) w_lit) rfl
section
variable {prog:Program} {w:World} {A:Around} {E:Value→Shared→Prop} {s:Shared} {K:Frag}
end
end Att
namespace L2
open PySem PySem.Spec PyProof.Rows
theorem vals_ints:∀ {vs:List Value} {ns:List Int},IntsAre vs ns→Vals (ns.map V.int) vs
 |_,_,.nil=>.nil
 |_,_,.cons n t h=>.cons ⟨t,rfl⟩ (vals_ints h)
noncomputable def Only(H:Hp):Prop:=∀ b,H b=none∨∃ o xs,H b=some (.frz o (.lst xs))
theorem law_call{P:Program}{w:World}{K:PySem.W.Frag}{mg mb:Str→Option Value}{CX:CXT}{k:Nat}{fa a:Addr}{fd:FuncData}{x:Str}{sp:Sp}{s₁:Shared}{vs:List Value}{ns:List Int}
  (KX:K.In s₁.heap) (hns:s₁.heap.Ns mainGlobals mg) (hb:s₁.heap.Ns builtinsNs mb) (hbb:∀ x:Str,x ≠ "__name__"→mb x=bootBuiltins x) (hlim:s₁.heap.NoLimit) (hg:s₁.gens = #[])
  (ha:s₁.heap.get? a=some { cls:=.type "list",data:=.seq vs.toArray }) (hi:IntsAre vs ns) (hl:ns.length ≤ sizeLine) (hr:Room k callerA)
  (F:∀ base:Heap,K.In base→base.Ns mainGlobals mg→FnOk P w K mg base CX k fa fd [x] sp) (hbind:∀ (s:Shared) (u:Value),BindsTo s fd ⟨[u],[]⟩ [(x,u)])
  (hsp:∀ H:Hp,Only H→SqL K H a (ns.map V.int)→sp [.ref a] H (fun v _=>v = .bl true) fun _ _ _=>False)
  (hCX:∀ H e s',CX [] H s₁ (fun _ _ _=>False) e s'→False) :
  codeAny (model P w) callerA (.call (.ref fa) ⟨[.ref a],[]⟩) (fun r s'=>r = .ok (.ret (.bool true))∧OldK s₁.heap s'.heap∧s'.os=s₁.os∧AllBare s'.gens) s₁:=by
 have rv:=vals_ints hi
 have lenV:=hi.length
 have core:∀ H:Hp,Only H→SqL K H a (ns.map V.int)→HOk P w H s₁.heap→(∀ b,H b ≠ none→b=a)→(H a ≠ none→K.lookup a=none) →
   codeAny (model P w) callerA (.call (.ref fa) ⟨[.ref a],[]⟩) (fun r s'=>r = .ok (.ret (.bool true))∧OldK s₁.heap s'.heap∧s'.os=s₁.os∧AllBare s'.gens) s₁:=by
  intro H hO hS hok hA hK
  have base_of:∀ {b:Addr} {o:Obj},s₁.heap.get? b=some o→H b=none→(hidT s₁.heap H).get? b=some o:=fun e n=>hidT_get e n
  have noA:∀ {b:Addr} {o:Obj} {es:Array DictEntry} {ep:Nat},s₁.heap.get? b=some o→o.data = .dict es ep→H b=none:=fun {b o es ep} e d=>by
   cases q:H b with
   |none=>rfl
   |some u =>
    have e':b=a:=hA b (by rw [q];simp)
    subst e'
    rw [ha] at e;cases e
    have d':Data.seq vs.toArray _=Data.dict es ep:=d
    cases d'
  have nsK:∀ {b:Addr} {m:Str→Option Value},s₁.heap.Ns b m→(hidT s₁.heap H).Ns b m:=fun {b m} ⟨o,es,ep,e,d,r⟩=>⟨o,es,ep,base_of e (noA e d),d,r⟩
  have hKb:K.In (hidT s₁.heap H):=fun b o e=>base_of (KX b o e) (by
   cases q:H b with
   |none=>rfl
   |some u =>
    have e':b=a:=hA b (by rw [q];simp)
    subst e'
    rw [hK (by rw [q];simp)] at e;cases e)
  have hM:Mod K mg (hidT s₁.heap H):=⟨hKb,nsK hns,⟨mb,nsK hb,hbb⟩,let ⟨mc,h1,h2⟩:=hlim;⟨mc,nsK h1,h2⟩⟩
  have e0:Env0 P w K mg (hidT s₁.heap H) callerA [] s₁ H:=⟨rfl,hM,fun b o e=>of_hidT e,Nat.le_of_eq (hidT_size _ _),trivial,fun b hb=>absurd (show b ∈ ([]:List Addr) from hb) (by simp),hok,.of_eq hg⟩
  refine codeAny_mono ((F _ hKb (nsK hns)).run callerA [] s₁ H ⟨[.ref a],[]⟩ [.ref a] [.ref a] _ _ hr e0 (hbind s₁ (.ref a)) (.cons rfl .nil) (hsp H hO hS)) fun r s' h=>?_
  cases r with
  |error e=>exact (hCX H e s' h).elim
  |ok fl =>
   cases fl with
   |next=>exact False.elim h
   |brk=>exact False.elim h
   |cont=>exact False.elim h
   |ret u =>
    obtain ⟨v,H',os,bare,un,hok',r',q⟩:=h
    have q':v = .bl true:=q
    subst q'
    obtain rfl:u=Value.bool true:=r'
    refine ⟨rfl,OldK.of_keep fun b o e=>?_,os,bare⟩
    cases q:H b with
    |none=>exact un.keep b o e q (by intro z;exact absurd (show b ∈ ([]:List Addr) from z) (by simp)) (by simp)
    |some u =>
     rcases hO b with z | ⟨ob,xs,z⟩
     ·rw [q] at z;cases z
     ·have z2:=un.frzs b ob _ z
      obtain ⟨e1,_⟩:=hok b _ z
      obtain ⟨e2,_⟩:=hok' b _ z2
      rw [e] at e1;cases e1
      exact e2
 cases hk:K.lookup a with
 |some o =>
  have e:=KX a o hk
  rw [ha] at e
  cases e
  refine core (fun _=>none) (fun _=>.inl rfl) (.inr ⟨_,vs.toArray,_,hk,rfl,rfl,rfl,by rw [List.size_toArray,lenV];exact hl,by simpa using rv⟩) (fun b u z=>by have z':(none:Option HO)=some u:=z;cases z') (fun b z=>absurd rfl z) fun z=>absurd rfl z
 |none =>
  refine core (fun b=>if b=a then some (.frz { cls:=.type "list",data:=.seq vs.toArray } (.lst (ns.map V.int))) else none) (fun b=>?_) (.inl (.inr ⟨{ cls:=.type "list",data:=.seq vs.toArray },if_pos rfl⟩)) (fun b u z=>?_) (fun b z=>?_) fun _=>hk
  ·by_cases hb:b=a
   ·exact .inr ⟨_,_,if_pos hb⟩
   ·exact .inl (if_neg hb)
  ·by_cases hb:b=a
   ·have z':=(if_pos hb).symm.trans z
    cases z'
    subst hb
    exact ⟨ha,by rw [List.length_map];exact hl,vs,_,rv,ha⟩
   ·have z':=(if_neg hb).symm.trans z
    cases z'
  ·by_cases hb:b=a
   ·exact hb
   ·exact absurd (if_neg hb) z
end L2
namespace L2
open PySem PySem.Spec PyProof.Rows
end L2
namespace L2
open PySem PySem.Spec PyProof.Rows
noncomputable def defArgs(s:Stmt):Arguments:=match s with
 |.FunctionDef _ a _ _ _ _ _ _ _ _=>a
 |_=>{ posonlyargs:=[],args:=[],vararg:=none,kwonlyargs:=[],kw_defaults:=[],kwarg:=none,defaults:=[] }
noncomputable def defBody(s:Stmt):List Stmt:=match s with
 |.FunctionDef _ _ b _ _ _ _ _ _ _=>b
 |_=>[]
noncomputable def defScope(s:Stmt):Scope:=match s with
 |.FunctionDef _ _ _ _ _ _ sc _ _ _=>sc
 |_=>{ kind:=.function,names:=[],isGenerator:=false,isCoroutine:=false }
noncomputable abbrev CX0:CXT:=fun _ _ _ _ _ _=>False
noncomputable abbrev E0:XK:=fun _ _ _=>False
theorem pass0{X:Cx}:Passes CX0 X E0:=fun _ _ _ _ _ _ _ h=>h.elim
structure Fun(K:PySem.W.Frag)(x qual:Str)(st:Stmt)(f:Addr)(fd:FuncData):Prop where
 ex:∃ (oc:Value) (od:Option Addr) (dV kV doc pm:Value) (an:Option Addr) (cdv ct:Value) (osl:Array (Option Value)),
  fd=PySem.W.fnOf x qual (defArgs st) (defBody st) (defScope st) dV kV doc pm an cdv ct∧K.lookup f=some ⟨oc,od,.func fd,osl⟩∧PySem.W.codeIn K cdv qual=true
 kp:PySem.W.keepIn K (.ref f)=true
section
variable {P:Program} {w:World} {K:PySem.W.Frag} {mg:Str→Option Value} {base:Heap}
theorem Fun.ok{x qual:Str}{st:Stmt}{f:Addr}{fd:FuncData}{N ps:List Str}{k:Nat}{sp:Sp}(F:Fun K x qual st f fd)(S:FnScope N ps (defScope st))(len:∀ vs H Q E,sp vs H Q E→vs.length=ps.length)
  (hbody:∀ (cdv:Value) (A:Around) (outer:List Env) (s:Shared) (H:Hp) (vs:List V) (Q:VK) (E:XK),Room k (A.deeper (envOfC qual (defScope st) s.heap.objs.size f cdv))→sp vs H Q E →
   ∃ t,PSs (cxOf CX0 P w K mg base N qual (defScope st) f cdv A outer s H E).nox (defBody st) t∧t { nx:=fun _ H'=>Q .non H',rt:=Q } (start N vs) H):FnOk P w K mg base CX0 (k + 1) f fd ps sp:=by
 obtain ⟨oc,od,dV,kV,doc,pm,an,cdv,ct,osl,rfl,lk,hcd⟩:=F.ex
 refine fn_of lk hcd S len fun A outer s H vs Q E hr hsp=>?_
 obtain ⟨t,h,q⟩:=hbody cdv A outer s H vs Q E hr hsp
 exact ⟨t,h.nox,q⟩
theorem fun_mk{x qual:Str}{st:Stmt}{f:Addr}{oc:Value}{od an:Option Addr}{osl:Array (Option Value)}{dV kV doc pm cdv ct:Value}(l:K.lookup f=some ⟨oc,od,.func (PySem.W.fnOf x qual (defArgs st) (defBody st) (defScope st) dV kV doc pm an cdv ct),osl⟩)
  (c:PySem.W.codeIn K cdv qual=true) (k:PySem.W.keepIn K (.ref f)=true):Fun K x qual st f (PySem.W.fnOf x qual (defArgs st) (defBody st) (defScope st) dV kV doc pm an cdv ct):=⟨⟨oc,od,dV,kV,doc,pm,an,cdv,ct,osl,rfl,l,c⟩,k⟩
end
section
variable {X:Cx}
end
theorem iteF{A B:Prop}(h:B):if false=true then A else B:=by
 rw [if_neg Bool.false_ne_true]
 exact h
theorem iteT{A B:Prop}(h:A):if true=true then A else B:=by
 rw [if_pos rfl]
 exact h
end L2
namespace L2
open PySem PySem.Spec PyProof.Rows
theorem relabel_lookup{env:Env}:∀ {names:List (Str×NameKind)} {x:Str},
  (names.map fun (n,k)=>if (k == NameKind.free && env.scope.kind == .function && env.kindOf n == some .cell) then (n,NameKind.cell) else (n,k)).lookup x
   = (names.lookup x).map fun k=>if (k == NameKind.free && env.scope.kind == .function && env.kindOf x == some .cell) then NameKind.cell else k
 |[],_=>rfl
 |(n,k) :: r,x=>by
  have ih:=@relabel_lookup env r x
  show List.lookup x ((if (k == NameKind.free && env.scope.kind == .function && env.kindOf n == some .cell)=true then (n,NameKind.cell) else (n,k)) :: _)=_
  cases hx:x == n with
  |true =>
   have e:x=n:=beq_iff_eq.mp hx
   subst e
   by_cases hc:(k == NameKind.free && env.scope.kind == .function && env.kindOf x == some .cell)=true
   ·rw [if_pos hc];simp only [List.lookup_cons,hx,Option.map_some];rw [if_pos hc]
   ·rw [if_neg hc];simp only [List.lookup_cons,hx,Option.map_some];rw [if_neg hc]
  |false =>
   by_cases hc:(k == NameKind.free && env.scope.kind == .function && env.kindOf n == some .cell)=true
   ·rw [if_pos hc];simp only [List.lookup_cons,hx];exact ih
   ·rw [if_neg hc];simp only [List.lookup_cons,hx];exact ih
theorem relabel_free{scope:Scope}{env:Env}{x:Str}(h:scope.names.lookup x=some .free):(relabel scope env).names.lookup x=some .cell∨(relabel scope env).names.lookup x=some .free:=by
 have e:(relabel scope env).names.lookup x=_:=relabel_lookup (env:=env) (names:=scope.names) (x:=x)
 rw [e,h,Option.map_some]
 split
 ·exact .inl rfl
 ·exact .inr rfl
theorem relabel_back{scope:Scope}{env:Env}{x:Str}(h:(relabel scope env).names.lookup x=some .cell∨(relabel scope env).names.lookup x=some .free):scope.names.lookup x=some .cell∨scope.names.lookup x=some .free:=by
 have e:(relabel scope env).names.lookup x=_:=relabel_lookup (env:=env) (names:=scope.names) (x:=x)
 rw [e] at h
 cases q:scope.names.lookup x with
 |none=>rw [q] at h;simp at h
 |some k =>
  rw [q,Option.map_some] at h
  by_cases hc:(k == NameKind.free && env.scope.kind == .function && env.kindOf x == some .cell)=true
  ·have:(k == NameKind.free)=true:=by
    rw [Bool.and_eq_true,Bool.and_eq_true] at hc;exact hc.1.1
   have:k = .free:=by simpa using this
   subst this;exact .inr rfl
  ·rw [if_neg hc] at h
   rcases h with h | h
   ·exact .inl h
   ·exact .inr h
noncomputable def closL(cells:List (Str×Addr)):List (Str×NameKind)→List (Str×Addr)→List (Str×Addr)
 |[],acc=>acc
 |(n,k) :: r,acc=>if k == .free then closL cells r ((n,(cells.lookup n).getD 0) :: acc) else closL cells r acc
theorem closureFor_eq{scope:Scope}{env:Env}(h:∀ n,(n,NameKind.free) ∈ scope.names→(env.cells.lookup n).isSome=true):closureFor scope env=pure (closL env.cells scope.names []):=by
 have all:∀ (names:List (Str×NameKind)) (acc:List (Str×Addr)),(∀ n,(n,NameKind.free) ∈ names→(env.cells.lookup n).isSome=true) →
   (forIn names acc fun x cs=>(if x.2 == NameKind.free then do let c ← cellOf env x.1;pure (ForInStep.yield ((x.1,c) :: cs)) else pure (ForInStep.yield cs):Sem (ForInStep (List (Str×Addr)))))=pure (closL env.cells names acc):=by
  intro names
  induction names with
  |nil=>intro acc _;rfl
  |cons p r ih =>
   intro acc hp
   obtain ⟨n,k⟩:=p
   rw [List.forIn_cons]
   by_cases hk:(k == NameKind.free)=true
   ·have ek:k = .free:=by simpa using hk
    obtain ⟨c,hc⟩:=Option.isSome_iff_exists.mp (hp n (by rw [ek];exact List.mem_cons_self))
    have e1:cellOf env n=pure c:=by unfold cellOf;rw [hc]
    dsimp only
    rw [if_pos hk,e1]
    have e2:closL env.cells ((n,k) :: r) acc=closL env.cells r ((n,c) :: acc):=by
     show (if k == .free then _ else _)=_
     rw [if_pos hk,hc];rfl
    rw [e2,← ih ((n,c) :: acc) fun m hm=>hp m (List.mem_cons_of_mem _ hm)]
    rfl
   ·dsimp only
    rw [if_neg hk]
    have e2:closL env.cells ((n,k) :: r) acc=closL env.cells r acc:=by
     show (if k == .free then _ else _)=_
     rw [if_neg hk]
    rw [e2,← ih acc fun m hm=>hp m (List.mem_cons_of_mem _ hm)]
    rfl
 have q:=all scope.names [] h
 unfold closureFor
 show ((forIn scope.names [] fun x cs=>(if x.2 == NameKind.free then do let c ← cellOf env x.1;pure (ForInStep.yield ((x.1,c) :: cs)) else pure (ForInStep.yield cs):Sem (ForInStep (List (Str×Addr))))) >>= fun cs=>pure cs)=_
 rw [q]
 rfl
theorem closL_mem{cells:List (Str×Addr)}:∀ {names:List (Str×NameKind)} {acc:List (Str×Addr)} {n:Str} {c:Addr},(n,c) ∈ closL cells names acc→(n,c) ∈ acc∨((n,NameKind.free) ∈ names∧(cells.lookup n).getD 0=c)
 |[],_,_,_,h=>.inl h
 |(m,k) :: r,acc,n,c,h=>by
  have h:(n,c) ∈ (if k == .free then closL cells r ((m,(cells.lookup m).getD 0) :: acc) else closL cells r acc):=h
  by_cases hk:(k == NameKind.free)=true
  ·rw [if_pos hk] at h
   have ek:k = .free:=by simpa using hk
   rcases closL_mem h with q | ⟨q1,q2⟩
   ·rcases List.mem_cons.mp q with q | q
    ·cases q
     exact .inr ⟨by rw [ek];exact List.mem_cons_self,rfl⟩
    ·exact .inl q
   ·exact .inr ⟨List.mem_cons_of_mem _ q1,q2⟩
  ·rw [if_neg hk] at h
   rcases closL_mem h with q | ⟨q1,q2⟩
   ·exact .inl q
   ·exact .inr ⟨List.mem_cons_of_mem _ q1,q2⟩
theorem closL_has{cells:List (Str×Addr)}:∀ {names:List (Str×NameKind)} {acc:List (Str×Addr)} {n:Str},((n,NameKind.free) ∈ names∨∃ c,(n,c) ∈ acc)→∃ c,(n,c) ∈ closL cells names acc
 |[],_,_,h=>h.elim (fun z=>nomatch z) id
 |(m,k) :: r,acc,n,h=>by
  show ∃ c,(n,c) ∈ (if k == .free then closL cells r ((m,(cells.lookup m).getD 0) :: acc) else closL cells r acc)
  by_cases hk:(k == NameKind.free)=true
  ·rw [if_pos hk]
   refine closL_has ?_
   rcases h with h | ⟨c,h⟩
   ·rcases List.mem_cons.mp h with h | h
    ·cases h;exact .inr ⟨_,List.mem_cons_self⟩
    ·exact .inl h
   ·exact .inr ⟨c,List.mem_cons_of_mem _ h⟩
  ·rw [if_neg hk]
   refine closL_has ?_
   rcases h with h | ⟨c,h⟩
   ·rcases List.mem_cons.mp h with h | h
    ·cases h;exact absurd rfl hk
    ·exact .inl h
   ·exact .inr ⟨c,h⟩
theorem lookup_of_mem_all{α:Type}{n:Str}{c:α}:∀ {l:List (Str×α)},(n,c) ∈ l→(∀ d,(n,d) ∈ l→d=c)→l.lookup n=some c
 |[],h,_=>nomatch h
 |(m,d) :: r,h,all=>by
  rw [List.lookup_cons]
  cases hb:n == m with
  |true =>
   have e:n=m:=beq_iff_eq.mp hb
   subst e
   rw [all d List.mem_cons_self]
  |false =>
   rcases List.mem_cons.mp h with q | q
   ·cases q;simp at hb
   ·exact lookup_of_mem_all q fun d' hd=>all d' (List.mem_cons_of_mem _ hd)
theorem cellsFrom_app:∀ (names:List (Str×NameKind)) (n:Nat) (acc:List (Str×Addr)),cellsFrom n names acc=cellsFrom n names [] ++ acc
 |[],_,_=>rfl
 |(x,k) :: r,n,acc=>by
  unfold cellsFrom
  split
  ·rw [cellsFrom_app r (n + 1) ((x,n) :: acc),cellsFrom_app r (n + 1) [(x,n)],List.append_assoc];rfl
  ·exact cellsFrom_app r n acc
theorem cellsFrom_kind:∀ {names:List (Str×NameKind)} {n:Nat} {x:Str} {c:Addr},(x,c) ∈ cellsFrom n names []→(x,NameKind.cell) ∈ names
 |[],_,_,_,h=>nomatch h
 |(y,k) :: r,n,x,c,h=>by
  unfold cellsFrom at h
  split at h
  ·rename_i hk
   have ek:k = .cell:=by simpa using hk
   rw [cellsFrom_app] at h
   rcases List.mem_append.mp h with q | q
   ·exact List.mem_cons_of_mem _ (cellsFrom_kind q)
   ·cases List.mem_singleton.mp q
    rw [ek];exact List.mem_cons_self
  ·exact List.mem_cons_of_mem _ (cellsFrom_kind h)
theorem lookup_nodup{α:Type}{n:Str}{c d:α}:∀ {l:List (Str×α)},(l.map (·.1)).Nodup→l.lookup n=some c→(n,d) ∈ l→d=c
 |[],_,_,h=>nomatch h
 |(m,e) :: r,hn,hl,hm=>by
  have hn:(m :: r.map (·.1)).Nodup:=hn
  obtain ⟨h1,h2⟩:=List.nodup_cons.mp hn
  rw [List.lookup_cons] at hl
  cases hb:n == m with
  |true =>
   rw [hb] at hl
   have e1:n=m:=beq_iff_eq.mp hb
   subst e1
   rcases List.mem_cons.mp hm with q | q
   ·cases q;cases hl;rfl
   ·exact absurd (List.mem_map.mpr ⟨(n,d),q,rfl⟩) h1
  |false =>
   rw [hb] at hl
   rcases List.mem_cons.mp hm with q | q
   ·cases q;simp at hb
   ·exact lookup_nodup h2 hl q
noncomputable def cxComp(X:Cx)(N':List Str)(scope:Scope)(s:Shared)(H:Hp)(fp:List Addr):Cx :=
 { X with N:=N',s₀:=s,H₀:=H,env:=compEnvC scope (cellsFrom (s.heap.objs.size + 1) scope.names (closL X.env.cells scope.names [])) s.heap.objs.size X.env,outer:=X.stack,ex:=fp,fn:=fun x=>scope.names.lookup x == some .cell,pn:=[],xe:=fun _ _=>False }
noncomputable def compSt(js:List (Option Nat))(σ:St):St:=js.map fun j=>match j with
 |some j=>(σ[j]?).getD none
 |none=>none
noncomputable def frB(X:Cx)(scope:Scope):Bool:=scope.names.all fun p=>p.2 != .free || X.env.kindOf p.1 == some .cell || X.env.kindOf p.1 == some .free
noncomputable def atB(X:Cx)(N':List Str)(js:List (Option Nat))(scope:Scope):Bool:=(js.zip N').all fun p=>match p.1 with
 |none=>true
 |some j=>X.N[j]? == some p.2 && scope.names.lookup p.2 == some .free
structure CompOk(X:Cx)(N':List Str)(js:List (Option Nat))(scope:Scope):Prop where
 kind:scope.kind = .function
 nd:(scope.names.map (·.1)).Nodup
 frb:frB X scope=true
 len:js.length=N'.length
 atb:atB X N' js scope=true
theorem CompOk.fr{X:Cx}{N':List Str}{js:List (Option Nat)}{scope:Scope}(C:CompOk X N' js scope):∀ n,(n,NameKind.free) ∈ scope.names→X.env.kindOf n=some .cell∨X.env.kindOf n=some .free:=fun n hn=>by
 have h:=List.all_eq_true.mp C.frb (n,.free) hn
 simp only [Bool.or_eq_true,bne_iff_ne,ne_eq,not_true_eq_false,false_or,beq_iff_eq] at h
 exact h
theorem CompOk.at_{X:Cx}{N':List Str}{js:List (Option Nat)}{scope:Scope}(C:CompOk X N' js scope):∀ (i j:Nat),js[i]?=some (some j)→∃ x,N'[i]?=some x∧X.N[j]?=some x∧scope.names.lookup x=some .free:=fun i j hj=>by
 have hi:i < js.length:=(List.getElem?_eq_some_iff.mp hj).1
 have hi':i < N'.length:=by rw [← C.len];exact hi
 have hz:(js.zip N')[i]?=some (some j,N'[i]):=by
  rw [List.getElem?_zip_eq_some]
  exact ⟨hj,by simp [hi']⟩
 have h:=List.all_eq_true.mp C.atb _ (List.mem_of_getElem? hz)
 simp only [Bool.and_eq_true,beq_iff_eq] at h
 exact ⟨N'[i],by simp [hi'],h.1,h.2⟩
section
variable {X:Cx} {pins:List (Addr×Obj)} {σ:St} {H:Hp} {s:Shared} {N':List Str} {js:List (Option Nat)} {scope:Scope} {fp:List Addr}
theorem comp_start(I:Inv X pins σ H s)(C:CompOk X N' js scope)(hf:∀ b ∈ fp,FpOk X pins H b)(ho:∀ b ∈ fp,∃ o,s.heap.get? b=some o) :
  Inv (cxComp X N' scope s H fp) [] (compSt js σ) H { s with heap:=pushCells (s.heap.push { cls:=.type "dict",data:=.dict #[] }) scope.names }:=by
 have keep:∀ b o,s.heap.get? b=some o→(pushCells (s.heap.push { cls:=.type "dict",data:=.dict #[] }) scope.names).get? b=some o:=fun b o e=>pushCells_keeps _ _ b o (Heap.get?_push_of_some _ e)
 have new:=cellsFrom_ok scope.names (s.heap.push { cls:=.type "dict",data:=.dict #[] }) (s.heap.objs.size + 1) [] ⟨fun _ _ hm=>(nomatch hm),List.Pairwise.nil⟩ (by rw [Heap.size_push];exact Nat.le_refl _)
 rw [Heap.size_push] at new
 have old:∀ n c,(n,c) ∈ closL X.env.cells scope.names []→X.env.cells.lookup n=some c:=fun n c h=>by
  rcases closL_mem h with q | ⟨q1,q2⟩
  ·exact nomatch q
  ·obtain ⟨d,hd⟩:=I.ok.has n (C.fr n q1)
   rw [hd] at q2
   rw [hd];exact congrArg some q2
 have oldlt:∀ n c,X.env.cells.lookup n=some c→c < s.heap.objs.size:=fun n c h=>by
  obtain ⟨v,q⟩:=I.cell n c h
  exact q.lt
 have mem:∀ n c,(cxComp X N' scope s H fp).env.cells.lookup n=some c→(n,c) ∈ cellsFrom (s.heap.objs.size + 1) scope.names []∨X.env.cells.lookup n=some c:=fun n c h=>by
  have h:(cellsFrom (s.heap.objs.size + 1) scope.names (closL X.env.cells scope.names [])).lookup n=some c:=h
  rw [cellsFrom_app] at h
  rcases List.mem_append.mp (PySem.mem_of_lookup h) with q | q
  ·exact .inl q
  ·exact .inr (old n c q)
 have lt:∀ b ∈ fp,b < s.heap.objs.size:=fun b hb=>let ⟨_,e⟩:=ho b hb;Heap.lt_size e
 have fre:∀ x c,scope.names.lookup x=some .free→X.env.cells.lookup x=some c→(cxComp X N' scope s H fp).env.cells.lookup x=some c:=fun x c hx hc=>by
  show (cellsFrom (s.heap.objs.size + 1) scope.names (closL X.env.cells scope.names [])).lookup x=some c
  have hm:=PySem.mem_of_lookup hx
  obtain ⟨d,hd⟩:=closL_has (cells:=X.env.cells) (acc:=[]) (.inl hm)
  have ed:∀ d',(x,d') ∈ closL X.env.cells scope.names []→d'=c:=fun d' h'=>Option.some.inj ((old x d' h').symm.trans hc)
  refine lookup_of_mem_all ?_ fun d' h'=>?_
  ·rw [cellsFrom_app,← ed d hd];exact List.mem_append_right _ hd
  ·rw [cellsFrom_app] at h'
   rcases List.mem_append.mp h' with q | q
   ·exact absurd (lookup_nodup C.nd hx (cellsFrom_kind q)) (by decide)
   ·exact ed d' q
 refine ⟨⟨I.ok.mod,C.kind,I.ok.glob,I.ok.blt,Nat.le_refl _,fun x y c h1 h2=>?_,fun x hx=>?_,fun x c hx h=>?_,I.ok.hd,I.ok.frames,.inl rfl,fun b hb=>⟨Nat.ne_of_lt (lt b hb),fun x c h z=>?_⟩,fun b o e=>I.bs b o e,Nat.le_trans I.ok.bsz I.sz,fun b o e hb=>?_,fun b hb z=>?_,I.stack,I.stkFree⟩,
  rfl,I.bare,Un.kept keep,⟨_,(Heap.Ns.new s.heap (.type "dict")).keeps (pushCells_keeps _ _),fun i x v h1 h2 h3=>?_⟩,fun x c h=>?_,I.hok.fresh (Nat.le_refl _),fun x c h=>?_,fun p hp=>absurd (show p ∈ ([]:List (Addr×Obj)) from hp) (by simp),I.hok.kept keep,?_⟩
 ·rcases mem x c h1 with p1 | p1 <;> rcases mem y c h2 with p2 | p2
  ·exact name_of_addr new.apart p1 p2
  ·exact absurd (Nat.lt_of_lt_of_le (oldlt y c p2) (Nat.le_trans (Nat.le_succ _) (new.empty x c p1).2)) (Nat.lt_irrefl _)
  ·exact absurd (Nat.lt_of_lt_of_le (oldlt x c p1) (Nat.le_trans (Nat.le_succ _) (new.empty y c p2).2)) (Nat.lt_irrefl _)
  ·exact I.ok.inj x y c p1 p2
 ·rcases relabel_back (scope:=scope) (env:=X.env) hx with q | q
  ·exact Option.isSome_iff_exists.mp (PySem.W.cellsFrom_some scope.names _ _ (.inl q))
  ·obtain ⟨c,hc⟩:=I.ok.has x (C.fr x (PySem.mem_of_lookup q))
   exact ⟨c,fre x c q hc⟩
 ·have hx:scope.names.lookup x=some .cell:=by simpa [cxComp] using hx
  rcases mem x c h with q | q
  ·exact Nat.le_trans (Nat.le_succ _) (new.empty x c q).2
  ·
   have e:(cellsFrom (s.heap.objs.size + 1) scope.names (closL X.env.cells scope.names [])).lookup x=some c:=h
   rw [cellsFrom_app,List.lookup_append] at e
   obtain ⟨d,hd⟩:=Option.isSome_iff_exists.mp (PySem.W.cellsFrom_some scope.names (s.heap.objs.size + 1) [] (.inl hx))
   rw [hd] at e
   cases e
   exact Nat.le_trans (Nat.le_succ _) (new.empty x _ (PySem.mem_of_lookup hd)).2
 ·rcases mem x c h with q | q
  ·have:=(new.empty x c q).2
   rw [z] at this
   exact absurd (Nat.lt_of_lt_of_le (lt b hb) (Nat.le_trans (Nat.le_succ _) this)) (Nat.lt_irrefl _)
  ·exact (hf b hb).2.2.2.2.1 x c q z
 ·obtain ⟨_,_,_,h1,_⟩:=hf b hb
  rcases h1 with h1 | h1
  ·exact I.ok.noex b o e h1
  ·exact absurd (Nat.lt_of_lt_of_le (Heap.lt_size (I.ok.bs b o e).1) h1) (Nat.lt_irrefl _)
 ·obtain ⟨_,h1,h2,_⟩:=hf b hb
  exact (List.mem_cons.mp (I.stkSub b z)).elim h1 h2
 ·
  obtain ⟨j,hj,hv⟩:∃ j,js[i]?=some (some j)∧(σ[j]?).getD none=some v:=by
   have h2:(js.map fun j=>match j with | some j=>(σ[j]?).getD none | none=>none)[i]?=some (some v):=h2
   rw [List.getElem?_map] at h2
   cases e:js[i]? with
   |none=>rw [e] at h2;cases h2
   |some o =>
    rw [e] at h2
    cases o with
    |none=>cases h2
    |some j=>exact ⟨j,rfl,Option.some.inj h2⟩
  obtain ⟨y,e1,e2,e3⟩:=C.at_ i j hj
  have exy:y=x:=Option.some.inj (e1.symm.trans (show N'[i]?=some x from h1))
  rw [exy] at e2 e3
  have hs:σ[j]?=some (some v):=by
   cases e:σ[j]? with
   |none=>rw [e] at hv;cases hv
   |some o=>rw [e] at hv;exact congrArg some hv
  have kx:=C.fr x (PySem.mem_of_lookup e3)
  obtain ⟨m,hn,hl⟩:=I.loc
  obtain ⟨u,r,l⟩:=hl j x v e2 hs (kx.elim (fun z=>.inr (.inl z)) fun z=>.inr (.inr z))
  refine ⟨u,r,.inr ⟨relabel_free e3,?_⟩⟩
  rcases l with ⟨k,_⟩ | ⟨_,c,hc,hcell⟩
  ·rcases kx with z | z
   ·rw [z] at k;cases k
   ·rw [z] at k;cases k
  ·exact ⟨c,fre x c e3 hc,hcell.keeps keep⟩
 ·rcases mem x c h with q | q
  ·exact ⟨none,(new.empty x c q).1⟩
  ·obtain ⟨v,z⟩:=I.cell x c q
   exact ⟨v,z.keeps keep⟩
 ·rcases mem x c h with q | q
  ·exact I.hok.fresh (Nat.le_trans (Nat.le_succ _) (new.empty x c q).2)
  ·exact I.freeC x c q
 ·show (compSt js σ).length=N'.length
  unfold compSt
  rw [List.length_map,C.len]
theorem comp_env{M:Model}{A:Around}{E:Value→Shared→Prop}{env:Env}{cl:List (Str×Addr)}{Q:Env→Shared→Prop}
  (h:Q (newEnv scope s.heap.objs.size env.globals (cellsFrom (s.heap.objs.size + 1) scope.names cl) env.qual none .none (some env) builtinsNs) { s with heap:=pushCells (s.heap.push { cls:=.type "dict",data:=.dict #[] }) scope.names }) :
  wpAny M A (newFunctionEnv scope env.globals cl [] env.qual none .none (some env)) Q E s:=by
 simp only [newFunctionEnv,Option.isSome_some,if_true]
 refine wpAny_bind (wpAny_alloc ?_)
 refine wpAny_bind (wpAny_layCells _ (fun name kind cells=>by cases hkc:kind == NameKind.cell <;> simp [hkc]) _ _ _ _ ?_)
 rw [show ({ s with heap:=s.heap.push { cls:=.type "dict",data:=.dict #[] } }:Shared).heap.objs.size=s.heap.objs.size + 1 from Heap.size_push ..]
 simp only [List.forIn_nil]
 exact wpAny_bind (wpAny_pure (wpAny_pure h))
noncomputable def PF(X:Cx)(ifs:List Expr)(t:TT):Prop :=
 ∀ (pins:List (Addr×Obj)) (s:Shared) (σ:St) (H:Hp) (Q:Bool→Hp→Prop),Inv X pins σ H s→t σ H Q →
  wpAny (model X.prog X.w) X.A (forIn ifs true fun c r=>if r=true then do let ok ← isTrue c X.env (eval c X.env);pure (ForInStep.yield ok) else pure (ForInStep.yield r)) (TP X pins σ Q) X.xe s
noncomputable def tNoIf:TT:=fun _ H Q=>Q true H
theorem pf_nil:PF X [] tNoIf:=fun _ _ _ H _ I h=>wpAny_tests_nil ⟨H,I,h⟩
theorem pf_one{c:Expr}{t:TT}(h:PT X c t):PF X [c] t:=fun pins s σ H Q I q=>wpAny_tests_one (h pins s σ H Q I q)
theorem compLoop_any{prog:Program}{w:World}{A:Around}{R:Result→Shared→Prop}{s:Shared}{elt target iter:Expr}{ifs:List Expr}{scope:Scope}{pos:Pos}{it acc:Value}{env:Env}(I:Nat→Shared→Prop)
  (turn:∀ n s,I n s→wpAny (model prog w) A (pyNext it) (fun r s₁=>match r with
   |none=>R (.ok .next) s₁
   |some v=>wpAny (model prog w) A (letOwnedTupleGo target it v) (fun _ s₀=>wpAny (model prog w) A (assign target env v) (fun _ s₂ =>
     wpAny (model prog w) A (forIn ifs true fun c r=>if r=true then do let ok ← isTrue c env (eval c env);pure (ForInStep.yield ok) else pure (ForInStep.yield r)) (fun ok s₃ =>
      if ok=true then wpAny (model prog w) A (eval elt env) (fun x s₄ =>
       wpAny (model prog w) A (call (.builtin "list.append") [acc,x]) (fun _ s₅=>∃ m,m < n∧I m s₅) (notedBy (model prog w) A env fun e s'=>R (.error e) s') s₄) (notedBy (model prog w) A env fun e s'=>R (.error e) s') s₃
      else ∃ m,m < n∧I m s₃) (notedBy (model prog w) A env fun e s'=>R (.error e) s') s₂) (notedBy (model prog w) A env fun e s'=>R (.error e) s') s₀) (notedBy (model prog w) A env fun e s'=>R (.error e) s') s₁) (notedBy (model prog w) A env fun e s'=>R (.error e) s') s)
  (n:Nat) (h:I n s):codeAny (model prog w) A (.compLoop (.ListComp elt [⟨target,iter,ifs,0⟩] scope pos) 0 it acc env) R s:=by
 refine codeAny_loop rfl I (fun n s hI=>?_) n h
 show wpAny _ A ((compTurn (.ListComp elt [⟨target,iter,ifs,0⟩] scope pos) 0 it acc env).onRaise (fun x=>do noteFrame x env;theTreesLotGoes x)) _ _ s
 refine wpAny_noted ?_
 rw [compTurn_list]
 refine wpAny_bind (wpAny_standAt (wpAny_bind (wpAny_mono (turn n s hI) (fun r s₁ h₁=>?_) fun _ _ h'=>h')))
 cases r with
 |none=>exact wpAny_pure h₁
 |some v =>
  refine wpAny_bind (wpAny_mono h₁ (fun _ s₀ h₀=>?_) fun _ _ h'=>h')
  refine wpAny_bind (wpAny_mono h₀ (fun _ s₂ h₂=>wpAny_bind (wpAny_mono h₂ (fun ok s₃ h₃=>?_) fun _ _ h'=>h')) fun _ _ h'=>h')
  cases ok with
  |false=>exact wpAny_pure ⟨rfl,h₃⟩
  |true =>
   exact wpAny_bind (wpAny_bind (wpAny_mono h₃ (fun x s₄ h₄=>wpAny_bind (wpAny_mono h₄ (fun _ s₅ h₅=>wpAny_pure (wpAny_pure ⟨rfl,h₅⟩)) fun _ _ h'=>h')) fun _ _ h'=>h'))
noncomputable def tCompW(J:It)(g:TG)(tf:TT)(te:TE)(D:Addr)(σ0:St)(H1:Hp)(Q:Hp→Prop):Prop :=
 ∃ W:Nat→Nat→St→Hp→Prop,(∃ m,W 0 m σ0 (upd H1 D (.lst [])))∧∀ i m σ H,W i m σ H →
  (J.stop i H∧Q H)∨(J.go i H∧∀ x H2,J.yld i H x H2→g x σ H2 fun σ2 H3=>tf σ2 H3 fun b H4 =>
   if b=true then te σ2 H4 fun y H5=>∃ zs,H5 D=some (.lst zs)∧zs.length < sizeLine∧∃ m',m' < m∧W (i + 1) m' σ2 (upd H5 D (.lst (zs ++ [y])))
   else ∃ m',m' < m∧W (i + 1) m' σ2 H4)
noncomputable def tComp(js:List (Option Nat))(wi:TI)(g:Shared→Hp→List Addr→TG)(tf:Shared→Hp→List Addr→TT)(te:Shared→Hp→List Addr→TE):TE:=fun σ H Q=>wi σ H fun J H1=>∀ (D:Addr),H1 D=none→∀ (s0:Shared) (H0:Hp) (fp:List Addr),tCompW J (g s0 H0 fp) (tf s0 H0 fp) (te s0 H0 fp) D (compSt js σ) H1 fun H'=>Q (.ref D) H'
theorem comp_run{tg iter elt:Expr}{ifs:List Expr}{pos:Pos}{J:It}{it:Addr}{tn:Nat→Heap→Prop}{g:Shared→Hp→TG}{tf:Shared→Hp→TT}{te:Shared→Hp→TE}{E:Value→Shared→Prop}{RR:Value→Addr→Result→Shared→Prop}{Q:Addr→Hp→Prop}
  (hc:X.calm=true) (C:CompOk X N' js scope) (I:Inv X pins σ H s) (T:Turn X.prog X.w X.K tg J fp it tn) (st:tn 0 s.heap) (hf:∀ b ∈ fp,FpOk X pins H b)
  (body:∀ (s0:Shared) (H0:Hp),PG (cxComp X N' scope s0 H0 fp) tg (g s0 H0)∧PF (cxComp X N' scope s0 H0 fp) ifs (tf s0 H0)∧PE (cxComp X N' scope s0 H0 fp) elt (te s0 H0))
  (h:∀ D,H D=none→∀ (s0:Shared) (H0:Hp),tCompW J (g s0 H0) (tf s0 H0) (te s0 H0) D (compSt js σ) H (Q D))
  (hRR:∀ (D C:Addr) (H':Hp) (s':Shared) (m:Str→Option Value),s'.heap.Ns C m→s.heap.objs.size ≤ C→(∀ p ∈ X.pn ++ pins,p.1 ≠ C)→H' C=none→C ≠ X.env.locals→(∀ x c,X.env.cells.lookup x=some c→c ≠ C)→(X.s₀.heap.objs.size ≤ C)→Inv X pins σ H' s'→Q D H'→RR (.ref D) C (.ok .next) s') :
  wpAny (model X.prog X.w) X.A (newList []) (fun acc s₃=>wpAny (model X.prog X.w) X.A (newFunctionEnv scope X.env.globals (closL X.env.cells scope.names []) [] X.env.qual none .none (some X.env)) (fun cenv s₄ =>
   codeAny (model X.prog X.w) X.A (.compStart (.ListComp elt [⟨tg,iter,ifs,0⟩] scope pos) 0 (.ref it) acc { cenv with scope:=relabel scope X.env }) (RR acc cenv.locals) s₄) E s₃) E s:=by
 have hfr:H s.heap.objs.size=none:=I.hok.fresh (Nat.le_refl _)
 have I1:Inv X pins σ (upd H s.heap.objs.size (.lst [])) { s with heap:=s.heap.push { cls:=.type "list",dict:=none,data:=.seq ([]:List Value).toArray } } :=
  I.laid (t':=s.toks) (fun b u e=>Heap.get?_push_of_some _ e) (Nat.le_refl _) ⟨Nat.zero_le _,[],_,.nil,Heap.get?_push_size _ rfl⟩
 refine wpAny_newObj_type (comp_env ?_)
 have st1:tn 0 (s.heap.push { cls:=.type "list",dict:=none,data:=.seq ([]:List Value).toArray }):=T.keep _ _ _ st fun b hb o e=>Heap.get?_push_of_some _ e
 have lt:∀ b ∈ fp,b < s.heap.objs.size:=fun b hb=>let ⟨_,e,_⟩:=T.obj _ _ st b hb;Heap.lt_size e
 have hf1:∀ b ∈ fp,FpOk X pins (upd H s.heap.objs.size (.lst [])) b:=fun b hb=>⟨by rw [upd_ne (Nat.ne_of_lt (lt b hb))];exact (hf b hb).1,(hf b hb).2⟩
 have I2:=comp_start (fp:=fp) I1 C hf1 (fun b hb=>let ⟨o,e,_⟩:=T.obj _ _ st1 b hb;⟨o,e⟩)
 have st2:tn 0 (pushCells ((s.heap.push { cls:=.type "list",dict:=none,data:=.seq ([]:List Value).toArray }).push { cls:=.type "dict",data:=.dict #[] }) scope.names):=T.keep _ _ _ st1 fun b hb o e=>pushCells_keeps _ _ b o (Heap.get?_push_of_some _ e)
 obtain ⟨W,⟨m0,w0⟩,turn⟩:=h _ hfr { s with heap:=s.heap.push { cls:=.type "list",dict:=none,data:=.seq ([]:List Value).toArray } } (upd H s.heap.objs.size (.lst []))
 obtain ⟨bg,bf,be⟩:=body { s with heap:=s.heap.push { cls:=.type "list",dict:=none,data:=.seq ([]:List Value).toArray } } (upd H s.heap.objs.size (.lst []))
 generalize hs1:({ s with heap:=s.heap.push { cls:=.type "list",dict:=none,data:=.seq ([]:List Value).toArray } }:Shared)=s1 at I1 I2 st2 bg bf be turn ⊢
 have es1:s1.heap=s.heap.push { cls:=.type "list",dict:=none,data:=.seq ([]:List Value).toArray }:=by rw [← hs1]
 have sz1:s1.heap.objs.size=s.heap.objs.size + 1:=by rw [es1,Heap.size_push]
 rw [← es1] at st2
 have stat:∀ {H':Hp},(∀ b ∈ fp,H' b=none)→∀ b ∈ fp,FpOk (cxComp X N' scope s1 (upd H s.heap.objs.size (.lst [])) fp) [] H' b:=fun hn b hb=>by
  refine ⟨hn b hb,(I2.ok.exf b hb).1,?_,.inl hb,(I2.ok.exf b hb).2,fun p hp=>absurd (show p ∈ ([]:List (Addr×Obj)) from hp) (by simp)⟩
  exact I2.ok.exfs b hb
 have outE:∀ {α:Type} {t:Sem α} {QQ:α→Shared→Prop} {E':Value→Shared→Prop} {s':Shared},wpAny (model X.prog X.w) X.A t QQ (fun _ _=>False) s'→wpAny (model X.prog X.w) X.A t QQ E' s':=fun q=>wpAny_mono q (fun _ _ z=>z) fun _ _ z=>z.elim
 have loop:∀ s2:Shared,s2={ s1 with heap:=pushCells (s1.heap.push { cls:=.type "dict",data:=.dict #[] }) scope.names } →
   codeAny (model X.prog X.w) X.A (.compLoop (.ListComp elt [⟨tg,iter,ifs,0⟩] scope pos) 0 (.ref it) (.ref s.heap.objs.size) (cxComp X N' scope s1 (upd H s.heap.objs.size (.lst [])) fp).env) (RR (.ref s.heap.objs.size) s1.heap.objs.size) s2:=by
  rintro s2 rfl
  refine compLoop_any (fun n s'=>∃ i σ' H',Inv (cxComp X N' scope s1 (upd H s.heap.objs.size (.lst [])) fp) [] σ' H' s'∧tn i s'.heap∧(∀ b ∈ fp,H' b=none)∧W i n σ' H') ?_ m0 ⟨0,_,_,I2,st2,fun b hb=>(hf1 b hb).1,w0⟩
  rintro n s3 ⟨i,σ3,H3,I3,st3,fr3,w3⟩
  rcases turn i n σ3 H3 w3 with ⟨stop,q⟩ | ⟨go,step⟩
  ·refine outE (thn (T.done (cxComp X N' scope s1 (upd H s.heap.objs.size (.lst [])) fp) rfl rfl rfl hc i [] s3 σ3 H3 (fun _ _=>False) I3 (stat fr3) st3 stop) fun r s4 zz0=>?_)
   obtain ⟨hr,I4⟩:=zz0
   subst hr
   have u4:Un (frs X.stack) fp (upd H s.heap.objs.size (.lst [])) H3 s1.heap s4.heap:=I4.base
   have IX:Inv X pins σ H3 s4:=I1.call' I4.os u4 I4.hok I4.bare fun b hb=>by
    obtain ⟨_,f1,_,f3,f4,f5⟩:=hf1 b hb
    exact ⟨f3,f1,f4,f5⟩
   obtain ⟨m,hn,_⟩:=I4.loc
   have cle:s.heap.objs.size ≤ s1.heap.objs.size:=by rw [sz1];exact Nat.le_succ _
   have clt:∀ b,b < s1.heap.objs.size→b ≠ s1.heap.objs.size:=fun b hb=>Nat.ne_of_lt hb
   refine hRR _ s1.heap.objs.size H3 s4 m hn cle (fun p hp=>clt _ (Heap.lt_size (I1.pin p hp).1)) I4.free (Ne.symm (clt _ I1.lt)) (fun x c e=>?_) (Nat.le_trans I.sz cle) IX q
   obtain ⟨v,z⟩:=I1.cell x c e
   exact clt _ z.lt
  ·refine outE (thn (T.item (cxComp X N' scope s1 (upd H s.heap.objs.size (.lst [])) fp) rfl rfl rfl hc i [] s3 σ3 H3 (fun _ _=>False) I3 (stat fr3) st3 go) fun r s4 zz0=>?_)
   obtain ⟨u,hr,h4⟩:=zz0
   subst hr
   refine outE (thn h4 fun _ s5 zz0=>?_)
   obtain ⟨x,H5,I5,r5,y5,st5,fr5⟩:=zz0
   have I5':=I5.pinned (stat fr5) (T.obj _ _ st5)
   refine outE (thn (bg _ s5 σ3 H5 x u _ I5' r5 (step x H5 y5)) fun _ s6 zz0=>?_)
   obtain ⟨σ6,H6,I6,q6⟩:=zz0
   refine outE (thn (bf _ s6 σ6 H6 _ I6 q6) fun ok s7 zz0=>?_)
   obtain ⟨H7,I7,q7⟩:=zz0
   have again:∀ {s8:Shared} {σ8:St} {H8:Hp} {m':Nat},Inv (cxComp X N' scope s1 (upd H s.heap.objs.size (.lst [])) fp) ([] ++ pinsAt fp s5.heap) σ8 H8 s8→m' < n→W (i + 1) m' σ8 H8 →
     ∃ m,m < n∧∃ i σ' H',Inv (cxComp X N' scope s1 (upd H s.heap.objs.size (.lst [])) fp) [] σ' H' s8∧tn i s8.heap∧(∀ b ∈ fp,H' b=none)∧W i m σ' H':=fun {s8 σ8 H8 m'} I8 hm w8=>by
    refine ⟨m',hm,i + 1,σ8,H8,I8.unpinned,T.keep _ _ _ st5 fun b hb o e=>(I8.pin (b,o) (List.mem_append_right _ (List.mem_append_right _ (mem_pinsAt hb e)))).1,fun b hb=>?_,w8⟩
    obtain ⟨o,e,d⟩:=T.obj _ _ st5 b hb
    exact (I8.pin (b,o) (List.mem_append_right _ (List.mem_append_right _ (mem_pinsAt hb e)))).2.1
   cases ok with
   |false =>
    rw [if_neg Bool.false_ne_true] at q7 ⊢
    obtain ⟨m',hm,w8⟩:=q7
    exact again I7 hm w8
   |true =>
    rw [if_pos rfl] at q7 ⊢
    refine outE (thn (be _ s7 σ6 H7 _ I7 q7) fun y s8 zz0=>?_)
    obtain ⟨v,H8,I8,r8,zs,hz,hlen,m',hm,w8⟩:=zz0
    obtain ⟨hzl,its,k,rv,e8⟩:=I8.hok _ _ hz
    refine outE (PyProof.Rows.append_at (hsz:=by rw [List.size_toArray,← rv.length];exact hzl) e8 fun h9 sb e9=>?_)
    rw [List.push_toArray] at e9
    have I9:Inv (cxComp X N' scope s1 (upd H s.heap.objs.size (.lst [])) fp) ([] ++ pinsAt fp s5.heap) σ6 (upd H8 s.heap.objs.size (.lst (zs ++ [v]))) { s8 with heap:=h9 } :=
     I8.write (t':=s8.toks) (by rw [hz];trivial) (.inl rfl) (fun b o hb e=>(sb.2 b hb).trans e) ⟨_,e9⟩ ⟨by rw [List.length_append,List.length_singleton];exact hlen,its ++ [y],k + 1,rv.append (.cons r8 .nil),e9⟩
    exact again I9 hm w8
 show codeAny (model X.prog X.w) X.A (.compStart (.ListComp elt [⟨tg,iter,ifs,0⟩] scope pos) 0 (.ref it) (.ref s.heap.objs.size) (cxComp X N' scope s1 (upd H s.heap.objs.size (.lst [])) fp).env) (RR (.ref s.heap.objs.size) s1.heap.objs.size) { s1 with heap:=pushCells (s1.heap.push { cls:=.type "dict",data:=.dict #[] }) scope.names }
 exact codeAny_compStart_list (loop _ rfl) (T.self X.A 0 _ _ _ st2 (loop _ rfl))
theorem lookup_of_nodup{α:Type}{n:Str}{c:α}:∀ {l:List (Str×α)},(l.map (·.1)).Nodup→(n,c) ∈ l→l.lookup n=some c
 |[],_,h=>nomatch h
 |(m,e) :: r,hn,hm=>by
  have hn:(m :: r.map (·.1)).Nodup:=hn
  obtain ⟨h1,h2⟩:=List.nodup_cons.mp hn
  rw [List.lookup_cons]
  rcases List.mem_cons.mp hm with q | q
  ·cases q;simp
  ·have hne:(n == m)=false:=by
    cases hb:n == m with
    |false=>rfl
    |true=>exact absurd (List.mem_map.mpr ⟨(n,c),q,beq_iff_eq.mp hb⟩) h1
   rw [hne]
   exact lookup_of_nodup h2 q
variable {tg iter elt:Expr} {ifs:List Expr} {pos:Pos} {wi:TI} {g:Shared→Hp→List Addr→TG} {tf:Shared→Hp→List Addr→TT} {te:Shared→Hp→List Addr→TE}
theorem pe_comp(hc:X.calm=true)(C:CompOk X N' js scope)(hi:PI X tg iter wi)
  (body:∀ (s0:Shared) (H0:Hp) (fp:List Addr),PG (cxComp X N' scope s0 H0 fp) tg (g s0 H0 fp)∧PF (cxComp X N' scope s0 H0 fp) ifs (tf s0 H0 fp)∧PE (cxComp X N' scope s0 H0 fp) elt (te s0 H0 fp))
  (hs:∀ x,foldedSetIterable iter X.env x=pure x:=by intro _;rfl):PE X (.ListComp elt [⟨tg,iter,ifs,0⟩] scope pos) (tComp js wi g tf te):=by
 intro pins s σ H Q I h
 rw [eval_ListComp]
 have hcl:closureFor scope X.env=pure (closL X.env.cells scope.names []):=closureFor_eq fun n hn=>Option.isSome_iff_exists.mpr (I.ok.has n (C.fr n hn))
 refine wpAny_comprehension_free (use:=none) rfl hs hcl C.kind (fun x hx hl=>lookup_of_nodup C.nd (by rw [← hl];exact hx)) (thn (hi pins s σ H _ I h) fun v s1 h1=>thn h1 fun itv s2 h2=>?_)
 obtain ⟨it,fp,tn,J,H2,e,I2,T,st2,f2,q⟩:=h2
 subst e
 refine comp_run (RR:=fun acc C=>compPost (model X.prog X.w) X.A X.xe none (EP X pins σ Q) acc C) hc C I2 T st2 f2 (g:=fun s0 H0=>g s0 H0 fp) (tf:=fun s0 H0=>tf s0 H0 fp) (te:=fun s0 H0=>te s0 H0 fp) (fun s0 H0=>body s0 H0 fp) (Q:=fun D H'=>Q (.ref D) H') (fun D hD s0 H0=>q D hD s0 H0 fp) ?_
 intro D Ca H' s' m hn hle hp hC hL hcel hs0 I' q'
 exact ⟨m,hn,fun h' hs'=>⟨.ref D,H',I'.turned (t':=s'.toks) (it:=Ca) (fun b o hb e=>(hs'.2 b hb).trans e) hC hL (.inr hs0) hcel hp,rfl,q'⟩⟩
end
end L2
namespace L2
open PySem PySem.Spec PyProof.Rows
section
variable {prog:Program} {w:World} {A:Around} {E:Value→Shared→Prop} {s:Shared}
theorem nextOf_tuple_item{it l:Addr}{i:Nat}{items:Array Value}{x:Value}{Q:Value→Shared→Prop}(hit:s.heap.IsTupleIter it l i)
  (hl:s.heap.IsTuple l items) (hx:items[i]?=some x)
  (hQ:∀ h',h'.IsTupleIter it l (i + 1)→Heap.SameBut it s.heap h'→Q x { s with heap:=h' }) :
  wpAny (model prog w) A (Builtin.SmallTypes.nextOf (.ref it)) Q E s:=by
 obtain ⟨o,ho,hc,hd⟩:=id hit
 obtain ⟨ol,hol,_,nl,hdl⟩:=hl
 unfold Builtin.SmallTypes.nextOf
 refine wpAny_bind (wpAny_callSpecial?_slot (name:=Str.ofString "__next__") hit.typeIs F.slot_tuple_iterator_next
  (wpAny_call_entry F.slot_tuple_iterator_next hit.typeIs F.entry_tuple_iterator_next ?_ (F.args_tuple_iterator_next_1 _)))
 show wpAny _ _ (field (.ref it) 0 >>= _) _ _ s
 refine wpAny_bind (wpAny_field ho hd (x:=.ref l) rfl ?_)
 show wpAny _ _ (if (Value.ref l == Value.none)=true then _ else _) _ _ s
 rw [if_neg (show ¬ ((Value.ref l == Value.none)=true) from Bool.false_ne_true)]
 show wpAny _ _ (field (.ref it) 1 >>= _) _ _ s
 refine wpAny_bind (wpAny_field ho hd (x:=.int i 0) rfl ?_)
 show wpAny _ _ (seqItems? (.ref l) >>= _) _ _ s
 refine wpAny_bind (wpAny_seqItems hol hdl ?_)
 simp only [Int.toNat_natCast,hx]
 refine wpAny_bind (wpAny_setField ho hd (by simp) (wpAny_pure ⟨x,rfl,wpAny_pure (hQ _ ?_ (Heap.SameBut.update ..))⟩))
 exact ⟨_,Heap.get?_update_self _ ho (Obj.isFreed_of_fields (Obj.data_mapFields hd _)),(Obj.cls_mapFields ..).trans hc,by
  rw [Obj.data_mapFields hd];simp [rawInt]⟩
theorem nextOf_tuple_end{it l:Addr}{i:Nat}{items:Array Value}{Q:Value→Shared→Prop}(hh:A.handled=none)
  (hit:s.heap.IsTupleIter it l i) (hl:s.heap.IsTuple l items) (hx:items[i]?=none)
  (hE:∀ h' e,Heap.ExtBut it s.heap h'→(∃ o,h'.get? e=some o∧o.cls = .type "StopIteration")→E (.ref e) { s with heap:=h' }) :
  wpAny (model prog w) A (Builtin.SmallTypes.nextOf (.ref it)) Q E s:=by
 obtain ⟨o,ho,hc,hd⟩:=id hit
 obtain ⟨ol,hol,_,nl,hdl⟩:=hl
 unfold Builtin.SmallTypes.nextOf
 refine wpAny_bind (wpAny_callSpecial?_slot (name:=Str.ofString "__next__") hit.typeIs F.slot_tuple_iterator_next
  (wpAny_call_entry F.slot_tuple_iterator_next hit.typeIs F.entry_tuple_iterator_next ?_ (F.args_tuple_iterator_next_1 _)))
 show wpAny _ _ (field (.ref it) 0 >>= _) _ _ s
 refine wpAny_bind (wpAny_field ho hd (x:=.ref l) rfl ?_)
 show wpAny _ _ (if (Value.ref l == Value.none)=true then _ else _) _ _ s
 rw [if_neg (show ¬ ((Value.ref l == Value.none)=true) from Bool.false_ne_true)]
 show wpAny _ _ (field (.ref it) 1 >>= _) _ _ s
 refine wpAny_bind (wpAny_field ho hd (x:=.int i 0) rfl ?_)
 show wpAny _ _ (seqItems? (.ref l) >>= _) _ _ s
 refine wpAny_bind (wpAny_seqItems hol hdl ?_)
 simp only [Int.toNat_natCast,hx]
 refine wpAny_bind (wpAny_rule (wpAny_bind (wpAny_setField ho hd (by simp) ?_)))
 show wpAny _ _ (newExc (.type "StopIteration") [] >>= _) _ _ _
 refine wpAny_bind ?_
 simp only [newExc,newTuple]
 refine wpAny_bind (wpAny_newObj_type ?_ (by size_fits))
 refine wpAny_bind (m:=firstArgMember _ _) (wpAny_of_eq (a:=Value.none) (by first | rfl | (simp only [firstArgMember];rfl)) ?_)
 refine wpAny_newObj_type ?_ (by size_fits)
 simp only [raiseNew]
 refine wpAny_bind (wpAny_handled ?_)
 first | rw [show A.in1.handled=none from hh] | rw [hh]
 refine wpAny_bind (wpAny_pure (wpAny_throw ?_))
 exact hE _ _ (((Heap.SameBut.update ..).extBut.push _).push _) ⟨_,Heap.get?_push_size _ rfl,rfl⟩
end
theorem draws_tuple{prog:Program}{w:World}{A:Around}(hh:A.handled=none)(it l:Addr)(hne:l ≠ it)(items:Array Value) :
  Draws prog w A it [it,l] items.size (fun i v=>items[i]?=some v) (fun i h=>h.IsTupleIter it l i∧h.IsTuple l items) where
 live:=fun _ _ st=>let ⟨o,ho,_⟩:=st.1;⟨o,ho⟩
 frame:=fun _ _ _ st hk=>⟨st.1.at fun o e=>hk it (by simp) o e,let ⟨o,ho,r⟩:=st.2;⟨o,hk l (by simp) o ho,r⟩⟩
 item:=fun i s Q E hi st hQ=>by
  refine nextOf_tuple_item st.1 st.2 (x:=items[i]) (by simp [hi]) fun h' hit hs=>?_
  exact hQ _ h' s.toks (by simp [hi]) ⟨hit,st.2.extBut hs.extBut hne⟩ hs
 done:=fun s Q E st hE=>nextOf_tuple_end hh st.1 st.2 (by simp) hE
theorem meets_enumerate_newT(l:Addr)(items:Array Value)(n:Nat)(dct:Option Addr)(sl:Array (Option Value)) :
  Meets (Builtin.«enumerate.__new__» ⟨[.type "enumerate",.ref l],[]⟩) (fun _ R s=>s.heap.get? l=some { cls:=.type "tuple",dict:=dct,data:=.seq items n,slots:=sl } ∧
   R (.ok (.ret (.ref (s.heap.push { cls:=.type "tuple_iterator",data:=.fields #[.ref l,.int 0 0] }).objs.size)))
    { s with heap:=(s.heap.push { cls:=.type "tuple_iterator",data:=.fields #[.ref l,.int 0 0] }).push { cls:=.type "enumerate",data:=.fields #[.none,.bool false,.ref s.heap.objs.size,rawInt 0,.none,.none] } }) :=
 .of_wp fun prog w A R s h=>by
  obtain ⟨hp,g,d,tk,os⟩:=s;obtain ⟨hl,h⟩:=h
  have hsub:=sub_enumerate
  have hL:Heap.IsTuple (Shared.heap ⟨hp,g,d,tk,os⟩) l items:=⟨_,hl,rfl,n,rfl⟩
  wp_walk using PySem.AutoSeq1.wpAny_loadPart' hl
  refine wpAny_stack_any fun st=>wpAny_pure ?_
  split
  ·rename_i c _ _ _ _ _
   cases (c == Value.type "enumerate")
   ·wp_walk using PySem.AutoSeq1.wpAny_loadPart' hl,wpAny_pyIter_tuple hL
    exact ⟨_,rfl,h⟩
   ·wp_walk using PySem.AutoSeq1.wpAny_loadPart' hl,wpAny_pyIter_tuple hL
    exact ⟨_,rfl,h⟩
  ·wp_walk using PySem.AutoSeq1.wpAny_loadPart' hl,wpAny_pyIter_tuple hL
   exact ⟨_,rfl,h⟩
theorem call_enumerate_tuple{prog:Program}{w:World}{A:Around}{E:Value→Shared→Prop}{s:Shared}{l:Addr}{items:Array Value}{Q:Value→Shared→Prop}(hL:s.heap.IsTuple l items)
  (h:∀ h',IsEnum h' (s.heap.objs.size + 1) s.heap.objs.size 0 .none→h'.IsTupleIter s.heap.objs.size l 0→h'.objs.size=s.heap.objs.size + 2 →
   (∀ b o,s.heap.get? b=some o→h'.get? b=some o)→Q (.ref (s.heap.objs.size + 1)) { s with heap:=h' }) :
  wpAny (model prog w) A (call (.type "enumerate") [.ref l]) Q E s:=by
 obtain ⟨⟨c,dct,dt,sl⟩,hl,hc,n,hd⟩:=hL
 replace hc:c = .type "tuple":=hc
 replace hd:dt = .seq items n:=hd
 subst hc hd
 refine callType_new F.called_enumerate (by decide) (F.typeCall_enumerate_1 _) (F.newCall_enumerate_1 _) (fun obj=>F.args_object_init_2 obj _) F.entry_enumerate_new
  (meets_enumerate_newT l items n dct sl) ⟨hl,?_⟩
 have hz:(s.heap.push { cls:=.type "tuple_iterator",data:=.fields #[.ref l,.int 0 0] }).objs.size=s.heap.objs.size + 1:=Heap.size_push ..
 show _∧_
 rw [hz]
 have he:IsEnum ((s.heap.push { cls:=.type "tuple_iterator",data:=.fields #[.ref l,.int 0 0] }).push
   { cls:=.type "enumerate",data:=.fields #[.none,.bool false,.ref s.heap.objs.size,rawInt 0,.none,.none] }) (s.heap.objs.size + 1) s.heap.objs.size 0 .none:=by
  have:=Heap.get?_push_size (s.heap.push { cls:=.type "tuple_iterator",data:=.fields #[.ref l,.int 0 0] })
   (o:={ cls:=.type "enumerate",data:=.fields #[.none,.bool false,.ref s.heap.objs.size,rawInt 0,.none,.none] }) rfl
  rw [hz] at this;exact this
 refine ⟨⟨_,he,rfl⟩,h _ he ⟨_,Heap.get?_push_of_some _ (Heap.get?_push_size _ rfl),rfl,rfl⟩ (by rw [Heap.size_push,hz]) fun b o x=>Heap.get?_push_of_some _ (Heap.get?_push_of_some _ x)⟩
section
variable {X:Cx} {pins:List (Addr×Obj)} {σ:St} {H:Hp} {s:Shared} {h':Heap}
theorem Inv.turned2{t':Nat}{e it:Addr}(I:Inv X pins σ H s)(k:∀ b o,b ≠ e→b ≠ it→s.heap.get? b=some o→h'.get? b=some o)(fe:FpOk X pins H e)(fi:FpOk X pins H it):Inv X pins σ H { s with heap:=h',toks:=t' }:=by
 have ne1:∀ b,b ∉ [e,it]→b ≠ e∧b ≠ it:=fun b hb=>⟨fun z=>hb (by simp [z]),fun z=>hb (by simp [z])⟩
 have nit:∀ b u,H b=some u→b ≠ e∧b ≠ it:=fun b u q=>⟨fun z=>(by rw [z,fe.1] at q;cases q),fun z=>(by rw [z,fi.1] at q;cases q)⟩
 refine I.step (g':=s.gens) (d':=s.drawn) (ch:=[e,it]) (fun b hb=>?_) (fun b o _ _ hc q _=>k b o (ne1 b hc).1 (ne1 b hc).2 q) (fun b o _ _ hc q _=>⟨o.slots,k b o (ne1 b hc).1 (ne1 b hc).2 q⟩) (fun _ _ _ _ n=>n)
  (fun b o hc q=>⟨o,k b o (ne1 b hc).1 (ne1 b hc).2 q⟩) (fun _ _ q=>q) (fun _ _ _ q=>q) (fun b ps q=>⟨#[],by rw [q];simp⟩) (fun m hm=>?_) (fun b u q=>?_) I.bare
 ·rcases List.mem_cons.mp hb with z | z
  ·subst z;exact ⟨fe.2.2.2.1,fe.2.1,fe.2.2.2.2.1,fe.2.2.2.2.2⟩
  ·have z:=List.mem_singleton.mp z
   subst z;exact ⟨fi.2.2.2.1,fi.2.1,fi.2.2.2.2.1,fi.2.2.2.2.2⟩
 ·obtain ⟨o,es,ep,ho,r⟩:=hm
  exact ⟨o,es,ep,k _ o (Ne.symm fe.2.1) (Ne.symm fi.2.1) ho,r⟩
 ·refine (I.hok b u q).stay (fun c v hc z=>?_) (fun _ z=>z) fun _ _ z=>z
  rcases hc with y | y
  ·rw [y];rw [y] at z;exact k b v (nit b u q).1 (nit b u q).2 z
  ·exact k c v (nit c _ y).1 (nit c _ y).2 z
end
structure EnumSrc(P:Program)(w:World)(K:PySem.W.Frag)(a it:Addr)(Sq:Hp→List V→Prop)(IsIt:Nat→Heap→Prop):Prop where
 at_:∀ i h h',IsIt i h→(∀ o,h.get? it=some o→h'.get? it=some o)→IsIt i h'
 live:∀ i h,IsIt i h→∃ o,h.get? it=some o∧∀ v,o.data ≠ .cell v
 drw:∀ (X:Cx),X.prog=P→X.w=w→X.K=K→X.calm=true→∀ (i:Nat) (pins:List (Addr×Obj)) (s:Shared) (σ:St) (H:Hp) (xs:List V),Inv X pins σ H s→IsIt i s.heap→Sq H xs →
  ∃ its:List Value,Vals xs its∧(∃ oa,s.heap.get? a=some oa∧oa.cls ≠ .type "enumerate")∧∃ St:Nat→Heap→Prop,Draws P w X.A.in1 it [it,a] its.length (fun i v=>its[i]?=some v) St∧St i s.heap∧∀ j h',St j h'→IsIt j h'
 inj:∀ (X:Cx),X.prog=P→X.w=w→X.K=K→∀ (pins:List (Addr×Obj)) (s:Shared) (σ:St) (H:Hp) (xs ys:List V),Inv X pins σ H s→Sq H xs→Sq H ys→xs=ys
noncomputable def Ite(Sq:Hp→List V→Prop):It :=
 ⟨fun i H=>∃ xs x,Sq H xs∧xs[i]?=some x,fun i H x H'=>∃ T v,x = .ref T∧H T=none∧H'=upd H T (.tup [.int (i:Nat),v])∧∀ xs,Sq H xs→xs[i]?=some v,fun i H=>∃ xs,Sq H xs∧xs.length=i⟩
theorem in1_handled{A:Around}(h:A.handled=none):A.in1.handled=none:=h
theorem src_list{P:Program}{w:World}{K:PySem.W.Frag}(a it:Addr):EnumSrc P w K a it (fun H xs=>SqL K H a xs) (fun i h=>h.IsListIter it a i) where
 at_:=fun i h h' st k=>st.at k
 live:=fun i h st=>by
  obtain ⟨o,e,c,d⟩:=st
  exact ⟨o,e,fun v z=>by rw [d] at z;cases z⟩
 drw:=by
  intro X hP hw hK hc i pins s σ H xs I hit hq
  subst hP hw hK
  obtain ⟨its,rv,p,hz⟩:=I.list hq
  obtain ⟨oa,e1,c1,r1⟩:=id p.isList
  have hne:a ≠ it:=fun z=>by
   obtain ⟨o,e,c,_⟩:=hit
   rw [← z,e1] at e;cases e;rw [c1] at c;injection c with c;exact absurd c (by decide)
  refine ⟨its,rv,⟨oa,e1,fun z=>(by rw [c1] at z;injection z with z;exact absurd z (by decide))⟩,(fun i h=>h.IsListIter it a i∧h.IsList a its.toArray),?_,⟨hit,p.isList⟩,fun j h' st=>st.1⟩
  have D:=Draws.list (prog:=X.prog) (w:=X.w) (A:=X.A.in1) (in1_handled (I.ok.hd hc)) it a hne its.toArray
  simpa using D
 inj:=by
  intro X hP hw hK pins s σ H xs ys I h1 h2
  subst hP hw hK
  exact I.list_inj h1 h2
theorem src_tup{P:Program}{w:World}{K:PySem.W.Frag}(a it:Addr):EnumSrc P w K a it (fun H xs=>SqT K H a xs) (fun i h=>h.IsTupleIter it a i) where
 at_:=fun i h h' st k=>st.at k
 live:=fun i h st=>by
  obtain ⟨o,e,c,d⟩:=st
  exact ⟨o,e,fun v z=>by rw [d] at z;cases z⟩
 drw:=by
  intro X hP hw hK hc i pins s σ H xs I hit hq
  subst hP hw hK
  obtain ⟨its,rv,p,hz⟩:=I.tuple hq
  obtain ⟨oa,e1,c1,r1⟩:=id p
  have hne:a ≠ it:=fun z=>by
   obtain ⟨o,e,c,_⟩:=hit
   rw [← z,e1] at e;cases e;rw [c1] at c;injection c with c;exact absurd c (by decide)
  refine ⟨its,rv,⟨oa,e1,fun z=>(by rw [c1] at z;injection z with z;exact absurd z (by decide))⟩,(fun i h=>h.IsTupleIter it a i∧h.IsTuple a its.toArray),?_,⟨hit,p⟩,fun j h' st=>st.1⟩
  have D:=draws_tuple (prog:=X.prog) (w:=X.w) (A:=X.A.in1) (in1_handled (I.ok.hd hc)) it a hne its.toArray
  simpa using D
 inj:=by
  intro X hP hw hK pins s σ H xs ys I h1 h2
  subst hP hw hK
  exact I.tuple_inj h1 h2
theorem turn_enum{P:Program}{w:World}{K:PySem.W.Frag}{a it:Addr}{Sq:Hp→List V→Prop}{IsIt:Nat→Heap→Prop}(S:EnumSrc P w K a it Sq IsIt)(e:Addr)(hei:e ≠ it){es:List Expr}{x1}{pos:Pos} :
  Turn P w K (.Tuple es x1 pos) (Ite Sq) [e,it] e (fun i h=>(∃ old,IsEnum h e it ((i:Nat):Int) old)∧IsIt i h) where
 mem:=by simp
 obj:=fun i h st b hb=>by
  obtain ⟨⟨old,he⟩,hit⟩:=st
  rcases List.mem_cons.mp hb with z | z
  ·subst z;exact ⟨_,he,fun v z=>by cases z⟩
  ·have z:=List.mem_singleton.mp z
   subst z;exact S.live i h hit
 keep:=fun i h h' st k=>by
  obtain ⟨⟨old,he⟩,hit⟩:=st
  exact ⟨⟨old,k e (by simp) _ he⟩,S.at_ i h h' hit fun o q=>k it (by simp) o q⟩
 item:=by
  intro X hP hw hK hc i pins s σ H E I hf st hg
  obtain ⟨⟨old,he⟩,hit⟩:=st
  obtain ⟨xs,x,hq,hx⟩:=hg
  obtain ⟨its,rv,⟨oa,ea,ca⟩,St,D,st0,fromSt⟩:=S.drw X hP hw hK hc i pins s σ H xs I hit hq
  obtain ⟨u,hu,ru⟩:=rv.get hx
  have hlt:i < its.length:=(List.getElem?_eq_some_iff.mp hu).1
  have hef:e ∉ [it,a]:=fun z=>by
   rcases List.mem_cons.mp z with z | z
   ·exact hei z
   ·have z:=List.mem_singleton.mp z
    have he':s.heap.get? e=some _:=he
    rw [z,ea] at he';cases he';exact ca rfl
  refine wpAny_pyNext_enum_itemD D he st0 hlt hei hef fun y h1 tk hy heo hst1 htup hsz hk=>?_
  have ey:y=u:=Option.some.inj (hy.symm.trans hu)
  subst ey
  refine ⟨_,rfl,wpAny_letOwnedTupleGo_enum heo fun h2 he2 sb2=>?_⟩
  have fe:=hf e (by simp)
  have fi:=hf it (by simp)
  have hT:H s.heap.objs.size=none:=I.hok.fresh (Nat.le_refl _)
  have Im:Inv X pins σ (upd H s.heap.objs.size (.tup [.int (i:Nat),x])) { s with heap:=s.heap.push { cls:=.type "tuple",data:=.seq #[.int i tk,y] } } :=
   I.laid (t':=s.toks) (fun b v q=>Heap.get?_push_of_some _ q) (Nat.le_refl _) ⟨by show 2 ≤ sizeLine;decide,[.int i tk,y],.cons ⟨tk,rfl⟩ (.cons ru .nil),⟨_,Heap.get?_push_size _ rfl,rfl,_,rfl⟩⟩
  have lt:∀ b o,s.heap.get? b=some o→b ≠ s.heap.objs.size:=fun b o q=>Nat.ne_of_lt (Heap.lt_size q)
  have ne:e ≠ s.heap.objs.size:=lt e _ he
  have ni:it ≠ s.heap.objs.size:=by
   obtain ⟨o,q,_⟩:=S.live i _ hit
   exact lt it o q
  have up:∀ b,b ≠ s.heap.objs.size→(upd H s.heap.objs.size (.tup [.int (i:Nat),x])) b=H b:=fun b hb=>upd_ne hb
  have fe':FpOk X pins (upd H s.heap.objs.size (.tup [.int (i:Nat),x])) e:=⟨by rw [up e ne];exact fe.1,fe.2⟩
  have fi':FpOk X pins (upd H s.heap.objs.size (.tup [.int (i:Nat),x])) it:=⟨by rw [up it ni];exact fi.1,fi.2⟩
  have I2:Inv X pins σ (upd H s.heap.objs.size (.tup [.int (i:Nat),x])) { s with heap:=h2,toks:=tk + 1 } :=
   Im.turned2 (t':=tk + 1) (h':=h2) (fun b o hbe hbi q=>by
    have q:(s.heap.push { cls:=.type "tuple",data:=.seq #[.int i tk,y] }).get? b=some o:=q
    refine (sb2.2 b hbe).trans ?_
    rcases Heap.get?_push_cases q with ⟨hb,ho⟩ | q'
    ·subst hb;subst ho;exact htup
    ·exact hk b o hbe hbi q') fe' fi'
  refine ⟨.ref s.heap.objs.size,_,I2,rfl,⟨_,x,rfl,hT,rfl,fun ys hy=>by rw [S.inj X hP hw hK pins s σ H ys xs I hy hq];exact hx⟩,⟨⟨y,?_⟩,?_⟩,fun b hb=>?_⟩
  ·have ec:((i + 1:Nat):Int)=(i:Int) + 1:=by push_cast;rfl
   rw [ec];exact he2
  ·exact S.at_ _ _ _ (fromSt _ _ hst1) fun o q=>(sb2.2 it (Ne.symm hei)).trans q
  ·rcases List.mem_cons.mp hb with z | z
   ·subst z;exact fe'.1
   ·have z:=List.mem_singleton.mp z
    subst z;exact fi'.1
 done:=by
  intro X hP hw hK hc i pins s σ H E I hf st hg
  obtain ⟨⟨old,he⟩,hit⟩:=st
  obtain ⟨xs,hq,hx⟩:=hg
  obtain ⟨its,rv,⟨oa,ea,ca⟩,St,D,st0,fromSt⟩:=S.drw X hP hw hK hc i pins s σ H xs I hit hq
  have hl:=rv.length
  have ei:its.length=i:=by omega
  rw [← ei] at st0
  obtain ⟨f0,f1,f2,f3,f4,f5⟩:=hf it (by simp)
  exact wpAny_pyNext_enum_endD D he st0 fun h1 eb=>⟨rfl,I.turned (t':=s.toks) (fun b o hb q=>eb b o hb q) f0 f1 f3 f4 f5⟩
 self:=fun _ _ _ _ _ st h=>wpAny_pyIter_enum st.1.choose_spec h
section
variable {X:Cx}
theorem enum_fin{pins:List (Addr×Obj)}{σ:St}{H:Hp}{s:Shared}{h':Heap}{a:Addr}{Sq:Hp→List V→Prop}{IsIt:Nat→Heap→Prop}{R:It→Hp→Prop}{tg:Expr}(htg:∃ es x1 pos,tg = .Tuple es x1 pos)(I:Inv X pins σ H s)(S:EnumSrc X.prog X.w X.K a s.heap.objs.size Sq IsIt)
  (he:IsEnum h' (s.heap.objs.size + 1) s.heap.objs.size 0 .none) (hit:IsIt 0 h') (hk:∀ b o,s.heap.get? b=some o→h'.get? b=some o) (q:R (Ite Sq) H) {E:Value→Shared→Prop} :
  wpAny (model X.prog X.w) X.A (pyIter (.ref (s.heap.objs.size + 1))) (PIE X pins σ tg R) E { s with heap:=h' }:=by
 obtain ⟨es,x1,pos,rfl⟩:=htg
 refine wpAny_pyIter_enum (s:={ s with heap:=h' }) he ?_
 refine ⟨s.heap.objs.size + 1,[s.heap.objs.size + 1,s.heap.objs.size],_,_,H,rfl,I.kept (t':=s.toks) hk,turn_enum S (s.heap.objs.size + 1) (Nat.succ_ne_self _),⟨⟨_,he⟩,hit⟩,fun b hb=>?_,q⟩
 rcases List.mem_cons.mp hb with z | z
 ·subst z;exact I.fpOk (Nat.le_succ _) (I.hok.fresh (Nat.le_succ _))
 ·have z:=List.mem_singleton.mp z
  subst z;exact I.fpOk (Nat.le_refl _) (I.hok.fresh (Nat.le_refl _))
end
end L2
namespace HT
open PySem PySem.Spec PyProof.Rows
section
variable {prog:Program} {w:World} {A:Around} {E:Value→Shared→Prop} {s:Shared}
theorem getItem_tuple_all{t sl:Addr}{items:Array Value}{vl vu:Value}{lo hi:Option Int}{Q:Value→Shared→Prop}(ht:IsTup s.heap t items)(hs:s.heap.IsSliceOf sl vl vu .none)(pl:IsPart vl lo)(pu:IsPart vu hi)
  (hw:sIx items.size 0 lo=0∧sIx items.size items.size hi=items.size) (h:Q (.ref t) s):wpAny (model prog w) A (getItem (.ref t) (.ref sl)) Q E s:=by
 obtain ⟨os,hos,hcs,hds⟩:=id hs
 have hTs:s.TypeIs (.ref sl) "slice":=⟨os,hos,hcs⟩
 unfold getItem
 try with_reducible refine wpAny_holding ?_
 first | refine wpAny_bind (wpAny_pure ?_) | skip
 refine wpAny_bind (wpAny_sequenceKey ht.typeIs (by decide) ?_)
 refine wpAny_bind (wpAny_callSpecial?_slot (name:=Str.ofString "__getitem__") ht.typeIs PyProof.Rows.slot_tuple_getitem
  (wpAny_call_entry PyProof.Rows.slot_tuple_getitem ht.typeIs entry_tuple_getitem ?_ (args_tuple_getitem _ _)))
 show wpAny _ _ (Builtin.Tuple.tupleItemsOf (.ref t) >>= _) _ _ s
 refine wpAny_bind (tupleItemsOf_ ht ?_)
 refine wpAny_bind (wpAny_typeOf hTs ?_)
 rw [if_pos (by decide)]
 refine wpAny_bind (sliceApplied_gen hs pl pu ?_)
 have hyes:(((sIx items.size 0 lo:Nat):Int) == 0 && (1:Int) == 1 && (sIx items.size items.size hi - sIx items.size 0 lo) == items.size)=true:=by
  rw [hw.1,hw.2];simp
 show wpAny _ _ (if (((sIx items.size 0 lo:Nat):Int) == 0 && (1:Int) == 1 && (sIx items.size items.size hi - sIx items.size 0 lo) == items.size)=true then _ else _) _ _ s
 rw [if_pos hyes]
 refine wpAny_bind (m:=Builtin.Tuple.tupleIsExact _) ?_
 unfold Builtin.Tuple.tupleIsExact
 refine wpAny_bind (wpAny_typeOf ht.typeIs (wpAny_pure ?_))
 rw [if_pos (by decide)]
 exact wpAny_bind (wpAny_rule (wpAny_bind (wpAny_pure (wpAny_pure ⟨_,rfl,wpAny_pure h⟩))))
end
end HT
namespace L2
open PySem PySem.Spec PyProof.Rows
section
variable {X:Cx}
end
end L2
namespace L2
open PySem PySem.Spec PyProof.Rows
mutual
inductive Is(H:Hp):V→PyData→Prop
 |non:Is H .non .none
 |bl (b:Bool):Is H (.bl b) (.bool b)
 |int (i:Int):Is H (.int i) (.int i)
 |str (x:Str):Is H (.str x) (.str x)
 |lst {a:Addr} {xs:List V} {ds:List PyData}:H a=some (.lst xs)→Iss H xs ds→Is H (.ref a) (.list ds)
 |tup {a:Addr} {xs:List V} {ds:List PyData}:H a=some (.tup xs)→Iss H xs ds→Is H (.ref a) (.tuple ds)
inductive Iss(H:Hp):List V→List PyData→Prop
 |nil:Iss H [] []
 |cons {x:V} {d:PyData} {xs:List V} {ds:List PyData}:Is H x d→Iss H xs ds→Iss H (x :: xs) (d :: ds)
end
section
variable {X:Cx} {pins:List (Addr×Obj)} {σ:St} {H:Hp} {s:Shared}
theorem call_sum_ints(hc:X.calm=true):CallR X (.builtin "sum") (fun xs H Q=>∃ (l:Addr) (ns:List Int),xs=[.ref l]∧SqL X.K H l (ns.map V.int)∧Q (.int ns.sum) H):=by
 intro pins s σ H xs us Q I r h
 obtain ⟨l,ns,rfl,hq,q⟩:=h
 obtain ⟨u,rfl,ru⟩:=vals1 r
 cases ru
 obtain ⟨its,rv,p,hz⟩:=I.list hq
 have hi:IntsAre its ns:=intsAre_of rv
 obtain ⟨ys,e⟩:=hi.allInts.items
 have en:ys.toList.map (·.1)=ns:=by rw [← nums_intItems,← e];simpa using hi.numsOf
 refine sum_intListG (xs:=ys) (I.ok.hd hc) (by rw [← e];exact p.isList) fun h' tk t' hk=>⟨.int ns.sum,H,I.kept hk,⟨t',?_⟩,q⟩
 rw [preSum_eq,List.take_of_length_le (by simp),en]
theorem mt_bits:MtR X "int.bit_length" (fun x vs H Q=>∃ i,x = .int i∧vs=[]∧Q (.int (Builtin.Int.intBits i:Nat)) H):=by
 intro pins s σ H x xs v us Q I rx r h
 obtain ⟨i,rfl,rfl,q⟩:=h
 obtain ⟨t,rfl⟩:=rx
 cases r
 exact PyProof.Rows.call_int_bit_length ⟨.int (Builtin.Int.intBits i:Nat),H,I.tok _,⟨_,rfl⟩,q⟩
end
end L2
namespace L2
open PySem PySem.Spec PyProof.Rows
structure Cal(P:Program)(w:World)(K:PySem.W.Frag)(mg:Str→Option Value)(base:Heap)(k:Nat)(x:Str)(ps:List Str)(sp:Sp):Prop where
 ex:∃ (f:Addr) (fd:FuncData),FnOk P w K mg base CX0 k f fd ps sp∧mg x=some (.ref f)∧PySem.W.keepIn K (.ref f)=true∧Binds K fd ps []
section
variable {X:Cx} {k:Nat} {ps:List Str} {sp:Sp} {x:Str} {p pos:Pos} {e:Expr} {es:List Expr} {t:TA}
theorem pe_cal(c:Cal X.prog X.w X.K X.mg X.base k x ps sp)(hr:Room k X.A)(hg:Gl X x)(ha:PA X (e :: es) t)(hdb:(x == ("__debug__":Str))=false:=by decide)
  (he:starEach (e :: es) X.env=(false,eval e X.env) :: starEach es X.env:=by rfl) (hpl:(backTo pos (starEach es X.env)).any (·.1)=false:=by rfl):PE X (.Call (.Name x p) (e :: es) [] pos) (tCall sp [] E0 t):=by
 obtain ⟨f,fd,F,hm,hk,hb⟩:=c.ex
 exact pe_call F hr hg hm hk hb .nil pass0 ha hdb he hpl
end
end L2
namespace L2
open PySem PySem.Spec PyProof.Rows
section
variable {X:Cx}
end
end L2
namespace L2
open PySem PySem.Spec PyProof.Rows
section
variable {X:Cx} {e st:Expr} {te:TE} {lo hi:Option Expr} {tl th ts:TO} {pos p2:Pos}
end
end L2
namespace L2
open PySem PySem.Spec PyProof.Rows
section
variable {X:Cx}
end
end L2
namespace L2
open PySem PySem.Spec PyProof.Rows
section
variable {prog:Program} {w:World} {A:Around} {E:Value→Shared→Prop} {s:Shared}
end
section
variable {X:Cx} {pos:Pos}
end
end L2
namespace L2
open PySem PySem.Spec PyProof.Rows
section
variable {prog:Program} {w:World} {A:Around} {E:Value→Shared→Prop} {s:Shared}
theorem iter_keys{d:Addr}{o:Obj}{es:Array DictEntry}{ep:Nat}{Q:Value→Shared→Prop}(hd:(d == sysModules)=false)(ho:s.heap.get? d=some o)(hx:o.ExactDict)(hdat:o.data = .dict es ep)
  (hQ:Q (.ref s.heap.objs.size) { s with heap:=s.heap.push { cls:=.type "dict_keyiterator",data:=.fields #[.ref d,.int 0 0,.int es.size 0,.int ep 0] } }):wpAny (model prog w) A (pyIter (.ref d)) Q E s:=by
 have hT:s.TypeIs (.ref d) "dict":=⟨o,ho,hx.1⟩
 refine wpAny_pyIter_slot hT F.slot_dict_iter (wpAny_call_entry F.slot_dict_iter hT F.entry_dict_iter (by unfold Builtin.«dict.__iter__»;refine wpAny_bind ?_;unfold Builtin.Dict.dictSlotNone;refine wpAny_bind (wpAny_notOrdered_dict hT ?_);show wpAny _ _ (pure (Value.ref d)) _ _ s;refine wpAny_pure ?_;show wpAny _ _ (Builtin.Dict.showsAll d >>= _) _ _ s;unfold Builtin.Dict.showsAll;rw [if_neg (by rw [hd];exact Bool.false_ne_true)];refine wpAny_bind (wpAny_pure (wpAny_bind (wpAny_dictEntries ho hdat (wpAny_bind (wpAny_dictEpoch ho hdat (wpAny_bind (wpAny_newObj_type (wpAny_pure ⟨_,rfl,"dict_keyiterator",_,⟨_,Heap.get?_push_size _ rfl,rfl⟩,F.slot_dict_keyiterator_next.lookup,?_⟩))))))));simpa [rawInt] using hQ) (F.args_dict_iter_1 _))
theorem next_key_item{it d:Addr}{i ep:Nat}{od:Obj}{es:Array DictEntry}{Q:Option Value→Shared→Prop}(hit:s.heap.IsKeyIter it d i es.size ep)(hod:s.heap.get? d=some od)(hdd:od.data = .dict es ep)(hlt:i < es.size)
  (hQ:∀ h',h'.IsKeyIter it d (i + 1) es.size ep→Heap.SameBut it s.heap h'→Q (some es[i].key) { s with heap:=h' }):wpAny (model prog w) A (pyNext (.ref it)) Q E s:=by
 obtain ⟨o,ho,hc,hd⟩:=id hit
 unfold pyNext
 refine wpAny_bind (wpAny_attempt (wpAny_callSpecial?_slot (name:=Str.ofString "__next__") hit.typeIs F.slot_dict_keyiterator_next (wpAny_call_entry F.slot_dict_keyiterator_next hit.typeIs F.entry_dict_keyiterator_next ?_ (F.args_dict_keyiterator_next_1 _))))
 refine wpAny_bind (wpAny_pure (wpAny_bind (wpAny_bind ?_)))
 refine wpAny_bind (wpAny_typeNameOfWhole_keyiter hit.typeIs (wpAny_pure (wpAny_bind (wpAny_fieldsOf ho hd ?_))))
 have hown:Builtin.Dict_items.ownsTuple "dict_keyiterator" = false:=by decide
 simp only [hown,Bool.false_eq_true,if_false]
 show wpAny _ _ (if (Value.ref d == Value.none)=true then _ else _) _ _ s
 rw [if_neg (show ¬ ((Value.ref d == Value.none)=true) from Bool.false_ne_true)]
 refine wpAny_bind (wpAny_pure (wpAny_bind (wpAny_dictEntries hod hdd ?_)))
 rw [if_neg (by simp)]
 refine wpAny_bind (wpAny_pure (wpAny_bind (wpAny_dictEpoch hod hdd ?_)))
 rw [if_neg (by simp)]
 refine wpAny_pure ?_
 simp only [show ¬ ((i:Int) < 0) from by omega,if_false,Int.toNat_natCast,Array.getElem?_eq_getElem hlt]
 refine wpAny_bind (wpAny_bind (wpAny_typeNameOfWhole_keyiter hit.typeIs (wpAny_pure (wpAny_bind (wpAny_isOneOf_keyiter hit.typeIs ?_)))))
 show wpAny _ _ (setField (.ref it) 1 (rawInt ((i:Int) + 1)) >>= _) _ _ s
 refine wpAny_bind (wpAny_setField ho hd (by simp) ?_)
 have hit':(s.heap.update it (Obj.mapFields (·.setIfInBounds 1 (rawInt ((i:Int) + 1))))).IsKeyIter it d (i + 1) es.size ep:=⟨_,Heap.get?_update_self _ ho (Obj.isFreed_of_fields (Obj.data_mapFields hd _)),(Obj.cls_mapFields ..).trans hc,by rw [Obj.data_mapFields hd];simp [rawInt]⟩
 refine wpAny_bind (wpAny_holding (wpAny_bind (wpAny_isOneOf_keyiter (s:={ s with heap:=s.heap.update it (Obj.mapFields (·.setIfInBounds 1 (rawInt ((i:Int) + 1)))) }) hit'.typeIs ?_)))
 show wpAny _ _ (pure es[i].key) _ _ _
 exact wpAny_pure (wpAny_pure ⟨_,rfl,wpAny_pure (hQ _ hit' (Heap.SameBut.update ..))⟩)
theorem next_key_end{it d:Addr}{i ep:Nat}{od:Obj}{es:Array DictEntry}{Q:Option Value→Shared→Prop}(hh:A.handled=none)(hit:s.heap.IsKeyIter it d i es.size ep)(hod:s.heap.get? d=some od)(hdd:od.data = .dict es ep)(hge:es.size ≤ i)
  (hQ:∀ h',Heap.ExtBut it s.heap h'→Q none { s with heap:=h' }):wpAny (model prog w) A (pyNext (.ref it)) Q E s:=by
 obtain ⟨o,ho,hc,hd⟩:=id hit
 unfold pyNext
 refine wpAny_bind (wpAny_attempt (wpAny_callSpecial?_slot (name:=Str.ofString "__next__") hit.typeIs F.slot_dict_keyiterator_next (wpAny_call_entry F.slot_dict_keyiterator_next hit.typeIs F.entry_dict_keyiterator_next ?_ (F.args_dict_keyiterator_next_1 _))))
 refine wpAny_bind (wpAny_pure (wpAny_bind (wpAny_bind ?_)))
 refine wpAny_bind (wpAny_typeNameOfWhole_keyiter hit.typeIs (wpAny_pure (wpAny_bind (wpAny_fieldsOf ho hd ?_))))
 have hown:Builtin.Dict_items.ownsTuple "dict_keyiterator" = false:=by decide
 simp only [hown,Bool.false_eq_true,if_false]
 show wpAny _ _ (if (Value.ref d == Value.none)=true then _ else _) _ _ s
 rw [if_neg (show ¬ ((Value.ref d == Value.none)=true) from Bool.false_ne_true)]
 refine wpAny_bind (wpAny_pure (wpAny_bind (wpAny_dictEntries hod hdd ?_)))
 rw [if_neg (by simp)]
 refine wpAny_bind (wpAny_pure (wpAny_bind (wpAny_dictEpoch hod hdd ?_)))
 rw [if_neg (by simp)]
 refine wpAny_pure ?_
 simp only [show ¬ ((i:Int) < 0) from by omega,if_false,Int.toNat_natCast,Array.getElem?_eq_none hge]
 refine wpAny_bind (wpAny_bind (wpAny_typeNameOfWhole_keyiter hit.typeIs (wpAny_pure ?_)))
 show wpAny _ _ (setField (.ref it) 0 .none >>= _) _ _ s
 refine wpAny_bind (wpAny_setField ho hd (by simp) ?_)
 show wpAny _ _ (newExc (.type "StopIteration") [] >>= _) _ _ _
 refine wpAny_bind ?_
 simp only [newExc,newTuple]
 refine wpAny_bind (wpAny_newObj_type ?_ (by size_fits))
 refine wpAny_bind (m:=firstArgMember _ _) (wpAny_of_eq (a:=Value.none) (by first | rfl | (simp only [firstArgMember];rfl)) (wpAny_newObj_type ?_ (by size_fits)))
 simp only [raiseNew]
 refine wpAny_bind (wpAny_handled ?_)
 rw [show A.in1.handled=none from hh]
 refine wpAny_bind (wpAny_pure (wpAny_throw ?_))
 exact wpAny_bind (wpAny_isInstance (T:= "StopIteration") (b:=true) ⟨_,Heap.get?_push_size _ rfl,rfl⟩ isSubtype_stop (wpAny_pure (hQ _ (((Heap.SameBut.update ..).extBut.push _).push _))))
end
end L2
namespace L2
open PySem PySem.Spec PyProof.Rows
section
variable {X:Cx}
theorem vals_bools:∀ {bs:List Bool} {its:List Value},Vals (bs.map V.bl) its→its=bs.map Value.bool
 |[],_,r=>by rw [List.map_nil] at r;cases r;rfl
 |b :: bs,_,r=>by
  rw [List.map_cons] at r
  cases r with
  |cons h t=>rw [vals_bools t,(show _=Value.bool b from h)];rfl
theorem all_range(bs:List Bool):((List.range bs.length).all fun i=>(bs[i]?).getD true)=bs.all id:=by
 rw [Bool.eq_iff_iff,List.all_eq_true,List.all_eq_true]
 constructor
 ·intro h x hx
  obtain ⟨i,hi,rfl⟩:=List.getElem_of_mem hx
  have:=h i (List.mem_range.mpr hi)
  rw [List.getElem?_eq_getElem hi] at this
  exact this
 ·intro h i hi
  have hi:=List.mem_range.mp hi
  rw [List.getElem?_eq_getElem hi]
  exact h _ (List.getElem_mem hi)
theorem call_all_bools(hc:X.calm=true):CallR X (.builtin "all") (fun xs H Q=>∃ (l:Addr) (bs:List Bool),xs=[.ref l]∧SqL X.K H l (bs.map V.bl)∧Q (.bl (bs.all id)) H):=by
 intro pins s σ H xs us Q I r h
 obtain ⟨l,bs,rfl,hq,q⟩:=h
 obtain ⟨u,rfl,ru⟩:=vals1 r
 cases ru
 obtain ⟨its,rv,p,hz⟩:=I.list hq
 have e:=vals_bools rv
 subst e
 have hlt:l < s.heap.objs.size:=let ⟨_,e,_⟩:=p.isList;Heap.lt_size e
 refine call_all_walk (wpAny_pyIter_list p.isList ⟨s.heap.objs.size,[s.heap.objs.size,l],[s.heap.objs.size],(bs.map Value.bool).toArray.size,_,_,fun i=>(bs[i]?).getD true,rfl,Walks.list (A:=X.A.in1) (I.ok.hd hc) _ l (Nat.ne_of_lt hlt) _,⟨⟨_,Heap.get?_push_size _ rfl,rfl,rfl⟩,p.isList.push _⟩,fun i v s' Q' E' hP hQ=>?_,fun h' tk hk=>?_⟩)
 ·have hP:(bs.map Value.bool)[i]?=some v:=by simpa using hP
  rw [List.getElem?_map] at hP
  cases e:bs[i]? with
  |none=>rw [e] at hP;cases hP
  |some b =>
   rw [e] at hP
   cases hP
   have hQ:Q' ((bs[i]?).getD true) s':=hQ
   rw [e] at hQ
   exact wpAny_truthy_bool hQ
 ·have e:((List.range (bs.map Value.bool).toArray.size).all fun i=>(bs[i]?).getD true)=bs.all id:=by
   rw [List.size_toArray,List.length_map];exact all_range bs
  rw [e]
  refine ⟨.bl (bs.all id),H,I.kept (t':=tk) (fun b o q=>hk b o (fun z=>?_) (Heap.get?_push_of_some _ q)),rfl,q⟩
  rw [List.mem_singleton.mp z] at q
  exact Nat.lt_irrefl _ (Heap.lt_size q)
end
end L2
namespace L2
open PySem PySem.Spec PyProof.Rows
theorem KT.get{H:Hp}:∀ {kvs:List (List Key×V)} {xs:List (List Key×Addr×Value)} {i:Nat} {q:List Key×Addr×Value},KT H kvs xs→xs[i]?=some q→∃ p,kvs[i]?=some p∧H q.2.1=some (.tup (p.1.map kV))
 |_,_,_,_,.nil,e=>by simp at e
 |_,_,0,_,.cons r _,e=>by simp at e;subst e;exact ⟨_,rfl,r.2.1⟩
 |_,_,i + 1,q,.cons _ t,e=>by
  obtain ⟨p,h1,h2⟩:=KT.get (i:=i) (q:=q) t (by simpa using e)
  exact ⟨p,by simpa using h1,h2⟩
noncomputable def Itd(a:Addr)(o:Obj)(kvs:List (List Key×V)):It :=
 ⟨fun i H=>H a=some (.frz o (.dT kvs))∧i < kvs.length,fun i H x H'=>H'=H∧∃ b p,kvs[i]?=some p∧x = .ref b∧H b=some (.tup (p.1.map kV)),fun i H=>H a=some (.frz o (.dT kvs))∧kvs.length ≤ i⟩
theorem frz_dT{P:Program}{w:World}{H:Hp}{h:Heap}{a:Addr}{o:Obj}{es:Array DictEntry}{ep:Nat}{kvs:List (List Key×V)}(hd:o.data = .dict es ep)(ok:HOk P w H h)(e:H a=some (.frz o (.dT kvs))) :
  h.get? a=some o∧es.size=kvs.length∧∀ (i:Nat) (hi:i < es.size),∃ b p,kvs[i]?=some p∧es[i].key = .ref b∧H b=some (.tup (p.1.map kV)):=by
 obtain ⟨ho,z,y,xs,rel,o',es',ep',h1,h2,h3,h4,h5⟩:=(show ObjOk P w H h a (.frz o (.dT kvs)) from ok a _ e)
 rw [ho] at h1
 cases h1
 rw [hd] at h3
 cases h3
 have hs:es.size=xs.length:=by rw [← Array.length_toList,h4,List.length_map]
 refine ⟨ho,by rw [hs,Paired.length rel],fun i hi=>?_⟩
 have hix:i < xs.length:=by omega
 obtain ⟨p,e1,e2⟩:=KT.get rel (List.getElem?_eq_getElem hix)
 refine ⟨xs[i].2.1,p,e1,?_,e2⟩
 have q:es[i]?=some (entryOfKey (tupleKind (mixKind P w)) xs[i]):=by rw [← Array.getElem?_toList,h4,List.getElem?_map,List.getElem?_eq_getElem hix];rfl
 rw [Array.getElem?_eq_getElem hi] at q
 rw [Option.some.inj q];rfl
theorem turn_dictT{P:Program}{w:World}{K:PySem.W.Frag}{tg:Expr}(a it:Addr){o:Obj}{es:Array DictEntry}{ep:Nat}(kvs:List (List Key×V))(hd:o.data = .dict es ep) :
  Turn P w K tg (Itd a o kvs) [it] it (fun i h=>h.IsKeyIter it a i es.size ep) where
 mem:=by simp
 obj:=fun i h st b hb=>by
  have e:b=it:=by simpa using hb
  subst e
  obtain ⟨ob,e,c,d⟩:=st
  exact ⟨ob,e,fun v z=>by rw [d] at z;cases z⟩
 keep:=fun i h h' st k=>let ⟨ob,e,r⟩:=st;⟨ob,k it (by simp) ob e,r⟩
 item:=by
  intro X hP hw hK hc i pins s σ H E I hf st hg
  subst hP hw hK
  obtain ⟨hH,hi⟩:=hg
  obtain ⟨ho,hs,hk⟩:=frz_dT hd I.hok hH
  obtain ⟨b,p,e1,e2,e3⟩:=hk i (by omega)
  obtain ⟨f0,f1,f2,f3,f4,f5⟩:=hf it (by simp)
  refine next_key_item st ho hd (by omega) fun h' st' sb=>?_
  have I1:Inv X pins σ H { s with heap:=h' }:=I.turned (t':=s.toks) (fun b o hb e=>(sb.2 b hb).trans e) f0 f1 f3 f4 f5
  obtain ⟨ob,e,c,d⟩:=id st'
  exact ⟨_,rfl,go_of (s:={ s with heap:=h' }) e c d (by decide) ⟨.ref b,H,I1,e2,⟨rfl,b,p,e1,rfl,e3⟩,st',fun b hb=>(hf b hb).1⟩⟩
 done:=by
  intro X hP hw hK hc i pins s σ H E I hf st hg
  subst hP hw hK
  obtain ⟨hH,hi⟩:=hg
  obtain ⟨ho,hs,hk⟩:=frz_dT hd I.hok hH
  obtain ⟨f0,f1,f2,f3,f4,f5⟩:=hf it (by simp)
  exact next_key_end (I.ok.hd hc) st ho hd (by omega) fun h' eb=>⟨rfl,I.turned (t':=s.toks) (fun b o hb e=>eb b o hb e) f0 f1 f3 f4 f5⟩
 self:=fun A i s Q E st h=>by
  refine wpAny_pyIter_slot st.typeIs F.slot_dict_keyiterator_iter (wpAny_call_entry F.slot_dict_keyiterator_iter st.typeIs F.entry_dict_keyiterator_iter ?_ (F.args_dict_keyiterator_iter_1 _))
  show wpAny _ _ (ret (.ref it)) _ _ s
  exact wpAny_pure ⟨_,rfl,"dict_keyiterator",_,st.typeIs,F.slot_dict_keyiterator_next.lookup,h⟩
section
variable {X:Cx} {tg:Expr}
end
section
variable {X:Cx}
end
end L2
namespace L2
open PySem
end L2
namespace L2
open PySem PySem.Spec PyProof.Rows
section
variable {prog:Program} {w:World} {A:Around} {E:Value→Shared→Prop} {s:Shared}
end
end L2
namespace L2
open PySem PySem.Spec PyProof.Rows
section
variable {prog:Program} {w:World} {A:Around} {E:Value→Shared→Prop} {s:Shared}
end
end L2
namespace L2
open PySem PySem.Spec PyProof.Rows
section
variable {X:Cx}
end
noncomputable def KDict(P:Program)(w:World)(K:PySem.W.Frag)(a:Addr)(kvs:List (Key×V)):Prop:=∃ (o:Obj) (es:Array DictEntry) (ep:Nat) (vs:List (Key×Value)),K.lookup a=some o∧o.ExactDict∧o.data = .dict es ep∧KeysOf (mixKind P w) es∧Pairs (mixKind P w) es.toList vs∧(vs.map (·.1)).Nodup∧KV kvs vs
noncomputable def tGGet(kvs:List (Key×V))(ty:TE):TE:=fun σ H Q=>ty σ H fun y H1=>∃ k v,y=kV k∧valV kvs k=some v∧Q v H1
theorem pe_gget{X:Cx}{x:Str}{a:Addr}{kvs:List (Key×V)}{i:Expr}{ty:TE}{p pos:Pos}(hg:Gl X x)(hm:X.mg x=some (.ref a))(hk:KDict X.prog X.w X.K a kvs)(hi:PE X i ty)(hs:NoSl i)(hd:(x == ("__debug__":Str))=false:=by decide):PE X (.Subscript (.Name x p) i pos) (tGGet kvs ty):=by
 intro pins s σ H Q I h
 obtain ⟨o,es,ep,vs,h1,h2,h3,h4,h5,h6,h7⟩:=hk
 refine subD_of PySem.F.slot_dict_getitem.lookup hs (ld_glob I hg hm (thn (hi pins s σ H _ I h) fun iv s2 ⟨y,H2,I2,ry,k,v,ey,hv,q2⟩=>?_) hd)
 subst ey
 have dd:s2.heap.DictOf (mixKind X.prog X.w) a vs:=⟨o,es,ep,I2.kIn a o h1,h2,h3,h4,h5,h6⟩
 obtain ⟨w',hw,rw'⟩:=RelO.some_of (v:=v) (o:=valueAt vs k) (by rw [← hv];exact h7.val k)
 exact ⟨dd.typeIs,wpAny_getItem_of (kV_is ry) dd.mapOf hw ⟨v,H2,I2.tok _,rw',q2⟩⟩
end L2
namespace L2
open PySem
end L2
namespace L2
open PySem PySem.Spec PyProof.Rows
section
variable {X:Cx}
end
end L2
namespace DL
open PySem PySem.Spec L2
inductive D where
 |non | bl (b:Bool) | int (i:Int) | str (x:Str) | tup (xs:List D) | lst (xs:List D) | scr (xs:List D) | ref (i:Nat)
 |exc (cn:Str) (fs:List (Str×Int))
inductive O where
 |lst (xs:List D) | dT (z:Option Obj) (kvs:List (List Key×D)) | dK (kvs:List (Key×D)) | ins (cn:Str) (fs:List (Str×D))
structure KP where
 K:PySem.W.Frag
 π:List Addr
noncomputable def VT(K:KP)(α:List Addr)(H:Hp)(a:Addr)(us:List V):Prop:=a ∉ α∧a ∉ K.π∧H a=some (.tup us)
noncomputable def VS(K:KP)(α:List Addr)(H:Hp)(a:Addr)(us:List V):Prop :=
 (a ∉ α∧a ∉ K.π∧Rd H a (.lst us))∨∃ (o:Obj) (its:Array Value) (n:Nat),K.K.lookup a=some o∧o.cls = .type "list"∧o.dict=none∧o.data = .seq its n∧its.size ≤ sizeLine∧Vals us its.toList
noncomputable def VL(K:KP)(α:List Addr)(H:Hp)(a:Addr)(us:List V):Prop:=a ∉ α∧a ∉ K.π∧H a=some (.lst us)
noncomputable def VE(K:KP)(α:List Addr)(H:Hp)(a:Addr)(o:HO):Prop:=a ∉ α∧a ∉ K.π∧H a=some o
noncomputable def xDict(fs:List (Str×Int))(dx:Addr)(h:Heap):Prop:=∃ mA,h.Ns1 dx mA∧PySem.Within mA (fs.map (·.1))∧∀ f,RelO ((fs.lookup f).map V.int) (mA f)
noncomputable def xAny(C:Addr)(dx:Option Addr)(a:Addr)(h:Heap):Prop:=∃ o vs,h.get? a=some o∧o.cls = .ref C∧o.dict=dx∧o.data = .fields vs
noncomputable def XQ(K:KP)(α:List Addr)(H:Hp)(dx:Option Addr)(fs:List (Str×Int)):Prop:=(dx=none∧fs=[])∨∃ d,dx=some d∧VE K α H d (.ext (xDict fs d))
theorem XQ.map{K K':KP}{α α':List Addr}{H H':Hp}{dx:Option Addr}{fs:List (Str×Int)}(hE:∀ a o,VE K α H a o→VE K' α' H' a o)(h:XQ K α H dx fs):XQ K' α' H' dx fs:=h.imp id fun ⟨d,e,v⟩=>⟨d,e,hE _ _ v⟩
theorem VT.sq{K:KP}{α:List Addr}{H:Hp}{a:Addr}{us:List V}(h:VT K α H a us):SqT K.K H a us:=.inl (.inl h.2.2)
theorem VS.sq{K:KP}{α:List Addr}{H:Hp}{a:Addr}{us:List V}(h:VS K α H a us):SqL K.K H a us:=by
 rcases h with ⟨_,_,h⟩ | h
 ·exact .inl h
 ·exact .inr h
theorem VL.sq{K:KP}{α:List Addr}{H:Hp}{a:Addr}{us:List V}(h:VL K α H a us):SqL K.K H a us:=SqL.of h.2.2
mutual
inductive RelD(K:KP)(α:List Addr)(H:Hp):D→V→Prop
 |non:RelD K α H .non .non
 |bl (b:Bool):RelD K α H (.bl b) (.bl b)
 |int (i:Int):RelD K α H (.int i) (.int i)
 |str (x:Str):RelD K α H (.str x) (.str x)
 |tup {a:Addr} {us:List V} {ds:List D}:VT K α H a us→RelDs K α H ds us→RelD K α H (.tup ds) (.ref a)
 |lst {a:Addr} {us:List V} {ds:List D}:VL K α H a us→RelDs K α H ds us→RelD K α H (.lst ds) (.ref a)
 |scr {a:Addr} {us:List V} {ds:List D}:VS K α H a us→RelDs K α H ds us→RelD K α H (.scr ds) (.ref a)
 |ref {i:Nat} {a:Addr}:α[i]?=some a→RelD K α H (.ref i) (.ref a)
 |exc {a C:Addr} {dx:Option Addr} {cn:Str} {fs:List (Str×Int)}:PySem.W.nsIn K.K mainGlobals cn=some (some (.ref C))→VE K α H a (.ext (xAny C dx a))→XQ K α H dx fs→RelD K α H (.exc cn fs) (.ref a)
inductive RelDs(K:KP)(α:List Addr)(H:Hp):List D→List V→Prop
 |nil:RelDs K α H [] []
 |cons {d:D} {u:V} {ds:List D} {us:List V}:RelD K α H d u→RelDs K α H ds us→RelDs K α H (d :: ds) (u :: us)
end
theorem RelD.map{K K':KP}{α α':List Addr}{H H':Hp}(hK:K'.K=K.K)(hT:∀ a us,VT K α H a us→VT K' α' H' a us)(hL:∀ a us,VL K α H a us→VL K' α' H' a us)(hS:∀ a us,VS K α H a us→VS K' α' H' a us)(hE:∀ a o,VE K α H a o→VE K' α' H' a o)
  (hR:∀ (i:Nat) (a:Addr),α[i]?=some a→α'[i]?=some a) {d:D} {v:V} (r:RelD K α H d v):RelD K' α' H' d v :=
 RelD.rec (motive_1:=fun d v _=>RelD K' α' H' d v) (motive_2:=fun ds us _=>RelDs K' α' H' ds us) .non .bl .int .str (fun t _ r=>.tup (hT _ _ t) r) (fun t _ r=>.lst (hL _ _ t) r) (fun t _ r=>.scr (hS _ _ t) r) (fun h=>.ref (hR _ _ h)) (fun n t r=>.exc (by rw [hK];exact n) (hE _ _ t) (r.map hE)) .nil (fun _ _ r t=>.cons r t) r
theorem RelDs.map{K K':KP}{α α':List Addr}{H H':Hp}(hK:K'.K=K.K)(hT:∀ a us,VT K α H a us→VT K' α' H' a us)(hL:∀ a us,VL K α H a us→VL K' α' H' a us)(hS:∀ a us,VS K α H a us→VS K' α' H' a us)(hE:∀ a o,VE K α H a o→VE K' α' H' a o)
  (hR:∀ (i:Nat) (a:Addr),α[i]?=some a→α'[i]?=some a) {ds:List D} {us:List V} (r:RelDs K α H ds us):RelDs K' α' H' ds us:=by
 induction ds generalizing us with
 |nil=>cases r;exact .nil
 |cons d ds ih=>cases r with | cons h t=>exact .cons (h.map hK hT hL hS hE hR) (ih t)
structure Ext(α:List Addr)(H:Hp)(α':List Addr)(H':Hp):Prop where
 pre:∃ β,α'=α ++ β∧∀ p ∈ β,H p=none
 keep:∀ b o,H b=some o→b ∉ α→H' b=some o
 dom:∀ b,H' b=none→H b=none
theorem Ext.refl(α:List Addr)(H:Hp):Ext α H α H:=⟨⟨[],by simp,fun p h=>nomatch h⟩,fun _ _ h _=>h,fun _ h=>h⟩
theorem Ext.out{α α':List Addr}{H H':Hp}(e:Ext α H α' H'){a:Addr}{o:HO}(h:a ∉ α)(ho:H a=some o):a ∉ α':=by
 obtain ⟨⟨β,rfl,hb⟩,_⟩:=e
 intro z
 rcases List.mem_append.mp z with z | z
 ·exact h z
 ·rw [hb a z] at ho;cases ho
theorem Ext.trans{α α' α'':List Addr}{H H' H'':Hp}(e:Ext α H α' H')(f:Ext α' H' α'' H''):Ext α H α'' H'':=by
 refine ⟨?_,fun b o h n=>f.keep b o (e.keep b o h n) (e.out n h),fun b h=>e.dom b (f.dom b h)⟩
 obtain ⟨⟨β,rfl,hb⟩,k,d⟩:=e
 obtain ⟨⟨γ,rfl,hc⟩,_⟩:=f
 refine ⟨β ++ γ,by simp,fun p hp=>?_⟩
 rcases List.mem_append.mp hp with z | z
 ·exact hb p z
 ·exact d p (hc p z)
theorem Ext.get{α α':List Addr}{H H':Hp}(e:Ext α H α' H'){i:Nat}{a:Addr}(h:α[i]?=some a):α'[i]?=some a:=by
 obtain ⟨⟨β,rfl,_⟩,_⟩:=e
 have hi:i < α.length:=(List.getElem?_eq_some_iff.mp h).1
 rw [List.getElem?_append_left hi];exact h
theorem Ext.new{α:List Addr}{H:Hp}{p:Addr}{o:HO}(h:H p=none):Ext α H α (upd H p o) :=
 ⟨⟨[],by simp,fun p h=>nomatch h⟩,fun b u e _=>by rw [upd_ne (ne_of_none e h)];exact e,fun b e=>by
  by_cases z:b=p
  ·subst z;rw [upd_same] at e;cases e
  ·rw [upd_ne z] at e;exact e⟩
theorem Ext.newT{α:List Addr}{H:Hp}{p:Addr}{o:HO}(h:H p=none):Ext α H (α ++ [p]) (upd H p o) :=
 ⟨⟨[p],rfl,fun q hq=>by rw [List.mem_singleton.mp hq];exact h⟩,(Ext.new h).keep (α:=α),(Ext.new (α:=α) h).dom⟩
theorem Ext.write{α:List Addr}{H:Hp}{p:Addr}{o:HO}(h:p ∈ α):Ext α H α (upd H p o) :=
 ⟨⟨[],by simp,fun p h=>nomatch h⟩,fun b u e n=>by rw [upd_ne (fun (z:b=p)=>n (by rw [z];exact h))];exact e,fun b e=>by
  by_cases z:b=p
  ·subst z;rw [upd_same] at e;cases e
  ·rw [upd_ne z] at e;exact e⟩
theorem VT.mono{K:KP}{α α':List Addr}{H H':Hp}(e:Ext α H α' H'){a:Addr}{us:List V}(h:VT K α H a us):VT K α' H' a us:=⟨e.out h.1 h.2.2,h.2.1,e.keep _ _ h.2.2 h.1⟩
theorem VS.mono{K:KP}{α α':List Addr}{H H':Hp}(e:Ext α H α' H'){a:Addr}{us:List V}(h:VS K α H a us):VS K α' H' a us:=by
 rcases h with ⟨n,m,h | ⟨o,h⟩⟩ | h
 ·exact .inl ⟨e.out n h,m,.inl (e.keep _ _ h n)⟩
 ·exact .inl ⟨e.out n h,m,.inr ⟨o,e.keep _ _ h n⟩⟩
 ·exact .inr h
theorem VL.mono{K:KP}{α α':List Addr}{H H':Hp}(e:Ext α H α' H'){a:Addr}{us:List V}(h:VL K α H a us):VL K α' H' a us:=⟨e.out h.1 h.2.2,h.2.1,e.keep _ _ h.2.2 h.1⟩
theorem VE.mono{K:KP}{α α':List Addr}{H H':Hp}(e:Ext α H α' H'){a:Addr}{u:HO}(h:VE K α H a u):VE K α' H' a u:=⟨e.out h.1 h.2.2,h.2.1,e.keep _ _ h.2.2 h.1⟩
theorem RelD.mono{K:KP}{α α':List Addr}{H H':Hp}(e:Ext α H α' H'){d:D}{v:V}(r:RelD K α H d v):RelD K α' H' d v:=r.map rfl (fun _ _ t=>t.mono e) (fun _ _ t=>t.mono e) (fun _ _ t=>t.mono e) (fun _ _ t=>t.mono e) (fun _ _ h=>e.get h)
theorem RelDs.mono{K:KP}{α α':List Addr}{H H':Hp}(e:Ext α H α' H'){ds:List D}{us:List V}(r:RelDs K α H ds us):RelDs K α' H' ds us:=r.map rfl (fun _ _ t=>t.mono e) (fun _ _ t=>t.mono e) (fun _ _ t=>t.mono e) (fun _ _ t=>t.mono e) (fun _ _ h=>e.get h)
section
variable {K:KP} {α α':List Addr} {H H':Hp}
theorem RelDs.length:∀ {ds:List D} {us:List V},RelDs K α H ds us→ds.length=us.length
 |_,_,.nil=>rfl
 |_,_,.cons _ t=>by rw [List.length_cons,List.length_cons,RelDs.length t]
theorem RelDs.get:∀ {ds:List D} {us:List V} {i:Nat} {d:D},RelDs K α H ds us→ds[i]?=some d→∃ u,us[i]?=some u∧RelD K α H d u
 |_,_,_,_,.nil,e=>by simp at e
 |_,_,0,_,.cons r _,e=>by simp at e;subst e;exact ⟨_,rfl,r⟩
 |_,_,i + 1,d,.cons _ t,e=>by
  obtain ⟨u,h1,h2⟩:=RelDs.get (i:=i) (d:=d) t (by simpa using e)
  exact ⟨u,by simpa using h1,h2⟩
theorem RelDs.append:∀ {ds es:List D} {us ws:List V},RelDs K α H ds us→RelDs K α H es ws→RelDs K α H (ds ++ es) (us ++ ws)
 |_,_,_,_,.nil,s=>s
 |_,_,_,_,.cons r t,s=>.cons r (RelDs.append t s)
theorem RelDs.take:∀ {ds:List D} {us:List V} (n:Nat),RelDs K α H ds us→RelDs K α H (ds.take n) (us.take n)
 |_,_,0,_=>.nil
 |_,_,_ + 1,.nil=>.nil
 |_,_,n + 1,.cons r t=>.cons r (RelDs.take n t)
theorem RelDs.drop:∀ {ds:List D} {us:List V} (n:Nat),RelDs K α H ds us→RelDs K α H (ds.drop n) (us.drop n)
 |_,_,0,r=>r
 |_,_,_ + 1,.nil=>.nil
 |_,_,n + 1,.cons _ t=>RelDs.drop n t
theorem RelDs.set{d:D}{u:V}(r:RelD K α H d u):∀ {ds:List D} {us:List V} (i:Nat),RelDs K α H ds us→RelDs K α H (ds.set i d) (us.set i u)
 |_,_,_,.nil=>.nil
 |_,_,0,.cons _ t=>.cons r t
 |_,_,i + 1,.cons q t=>.cons q (RelDs.set r i t)
theorem RelDs.snoc{ds:List D}{us:List V}{d:D}{u:V}(r:RelDs K α H ds us)(h:RelD K α H d u):RelDs K α H (ds ++ [d]) (us ++ [u]):=r.append (.cons h .nil)
theorem RelDs.ints:∀ ns:List Int,RelDs K α H (ns.map D.int) (ns.map V.int)
 |[]=>.nil
 |n :: r=>.cons (.int n) (RelDs.ints r)
theorem RelDs.ints_inv{ns:List Int}{us:List V}(r:RelDs K α H (ns.map D.int) us):us=ns.map V.int:=by
 induction ns generalizing us with
 |nil=>cases r;rfl
 |cons n ns ih=>cases r with | cons h t=>cases h;rw [ih t];rfl
theorem RelDs.bls_inv{bs:List Bool}{us:List V}(r:RelDs K α H (bs.map D.bl) us):us=bs.map V.bl:=by
 induction bs generalizing us with
 |nil=>cases r;rfl
 |cons n ns ih=>cases r with | cons h t=>cases h;rw [ih t];rfl
theorem RelDs.inv1{d:D}{us:List V}(h:RelDs K α H [d] us):∃ u,us=[u]∧RelD K α H d u:=by
 cases h with
 |cons r t=>cases t;exact ⟨_,rfl,r⟩
theorem RelDs.inv2{d e:D}{us:List V}(h:RelDs K α H [d,e] us):∃ u v,us=[u,v]∧RelD K α H d u∧RelD K α H e v:=by
 cases h with
 |cons r t =>
  obtain ⟨v,rfl,q⟩:=t.inv1
  exact ⟨_,_,rfl,r,q⟩
end
inductive RelKV(K:KP)(α:List Addr)(H:Hp){κ:Type}:List (κ×D)→List (κ×V)→Prop
 |nil:RelKV K α H [] []
 |cons {k:κ} {d:D} {u:V} {ds:List (κ×D)} {us:List (κ×V)}:RelD K α H d u→RelKV K α H ds us→RelKV K α H ((k,d) :: ds) ((k,u) :: us)
theorem RelKV.mono{K:KP}{α α':List Addr}{H H':Hp}{κ:Type}(e:Ext α H α' H'){ds:List (κ×D)}{us:List (κ×V)}(r:RelKV K α H ds us):RelKV K α' H' ds us:=by
 induction r with
 |nil=>exact .nil
 |cons h t ih=>exact .cons (h.mono e) ih
noncomputable def frzO:Option Obj→HO→HO
 |none,u=>u
 |some o,u=>.frz o u
inductive RelO'(K:KP)(α:List Addr)(H:Hp)(p:Addr):O→Prop
 |lst {xs:List D} {us:List V}:H p=some (.lst us)→RelDs K α H xs us→RelO' K α H p (.lst xs)
 |dT {z:Option Obj} {kvs:List (List Key×D)} {us:List (List Key×V)}:H p=some (frzO z (.dT us))→RelKV K α H kvs us→RelO' K α H p (.dT z kvs)
 |dK {kvs:List (Key×D)} {us:List (Key×V)}:H p=some (.dK us)→RelKV K α H kvs us→RelO' K α H p (.dK kvs)
 |ins {C dx:Addr} {cn:Str} {fs:List (Str×D)} {us:List (Str×V)}:PySem.W.nsIn K.K mainGlobals cn=some (some (.ref C))→H p=some (.ins C dx us)→RelKV K α H fs us→RelO' K α H p (.ins cn fs)
noncomputable def NoT(o:Option HO):Prop:=o ≠ none∧∀ us,o ≠ some (.tup us)
structure HRel(K:KP)(α:List Addr)(H:Hp)(h:List O):Prop where
 len:α.length=h.length
 nd:α.Nodup
 dis:∀ p ∈ K.π,p ∉ α∧NoT (H p)
 obj:∀ (i:Nat) (o:O),h[i]?=some o→∃ p,α[i]?=some p∧RelO' K α H p o
theorem NoT.ext{α α':List Addr}{H H':Hp}{p:Addr}(h:NoT (H p))(e:Ext α H α' H')(n:p ∉ α):NoT (H' p):=by
 cases q:H p with
 |none=>exact absurd q h.1
 |some o =>
  rw [e.keep p o q n]
  rw [q] at h
  exact h
theorem RelO'.mono{K:KP}{α α':List Addr}{H H':Hp}(e:Ext α H α' H'){p:Addr}{o:O}(r:RelO' K α H p o)(k:H' p=H p):RelO' K α' H' p o:=by
 cases r with
 |lst h t=>exact .lst (k.trans h) (t.mono e)
 |dT h t=>exact .dT (k.trans h) (t.mono e)
 |dK h t=>exact .dK (k.trans h) (t.mono e)
 |ins n h t=>exact .ins n (k.trans h) (t.mono e)
section
variable {K:KP} {α α':List Addr} {H H':Hp} {h:List O}
theorem HRel.some_(R:HRel K α H h){p:Addr}(hp:p ∈ α):∃ o,H p=some o:=by
 obtain ⟨i,hi,rfl⟩:=List.getElem_of_mem hp
 have hh:i < h.length:=by rw [← R.len];exact hi
 obtain ⟨q,e,r⟩:=R.obj i h[i] (List.getElem?_eq_getElem hh)
 rw [List.getElem?_eq_getElem hi] at e
 cases e
 generalize h[i]=o at r
 cases r with
 |lst h t=>exact ⟨_,h⟩
 |dT h t=>exact ⟨_,h⟩
 |dK h t=>exact ⟨_,h⟩
 |ins n h t=>exact ⟨_,h⟩
theorem HRel.out(R:HRel K α H h){p:Addr}(hp:H p=none):p ∉ α:=fun z=>by
 obtain ⟨o,e⟩:=R.some_ z
 rw [hp] at e;cases e
theorem HRel.same(R:HRel K α H h)(e:Ext α H α H')(k:∀ p ∈ α,H' p=H p):HRel K α H' h :=
 ⟨R.len,R.nd,fun p hp=>⟨(R.dis p hp).1,(R.dis p hp).2.ext e (R.dis p hp).1⟩,fun i o q=>by
  obtain ⟨p,ep,r⟩:=R.obj i o q
  exact ⟨p,ep,r.mono e (k p (List.mem_of_getElem? ep))⟩⟩
theorem HRel.new(R:HRel K α H h){p:Addr}{o:HO}(hp:H p=none):HRel K α (upd H p o) h :=
 R.same (Ext.new hp) fun q hq=>upd_ne fun z=>R.out hp (z ▸ hq)
theorem HRel.newT(R:HRel K α H h){p:Addr}{o:HO}{u:O}(hp:H p=none)(r:RelO' K (α ++ [p]) (upd H p o) p u):HRel K (α ++ [p]) (upd H p o) (h ++ [u]):=by
 have np:=R.out hp
 refine ⟨by simp [R.len],?_,fun q hq=>⟨fun z=>?_,(R.dis q hq).2.ext (Ext.new (α:=α) hp) (R.dis q hq).1⟩,fun i v q=>?_⟩
 ·rw [List.nodup_append]
  exact ⟨R.nd,by simp,fun a ha b hb=>by rw [List.mem_singleton.mp hb];exact fun z=>np (z ▸ ha)⟩
 ·rcases List.mem_append.mp z with z | z
  ·exact (R.dis q hq).1 z
  ·rw [List.mem_singleton.mp z] at hq
   exact (R.dis p hq).2.1 hp
 ·by_cases hi:i < h.length
  ·rw [List.getElem?_append_left hi] at q
   obtain ⟨a,ea,ra⟩:=R.obj i v q
   refine ⟨a,(Ext.newT (o:=o) hp).get ea,ra.mono (Ext.newT hp) (upd_ne fun z=>np (z ▸ List.mem_of_getElem? ea))⟩
  ·have hi':i=h.length:=by
    have:=(List.getElem?_eq_some_iff.mp q).1
    rw [List.length_append,List.length_singleton] at this;omega
   subst hi'
   rw [List.getElem?_append_right (Nat.le_refl _)] at q
   simp at q;subst q
   exact ⟨p,by rw [List.getElem?_append_right (by rw [R.len];exact Nat.le_refl _),R.len];simp,r⟩
theorem HRel.write(R:HRel K α H h){p:Addr}{i:Nat}{o:HO}{u:O}(hp:α[i]?=some p)(r:RelO' K α (upd H p o) p u):HRel K α (upd H p o) (h.set i u):=by
 have hm:=List.mem_of_getElem? hp
 refine ⟨by simp [R.len],R.nd,fun q hq=>⟨(R.dis q hq).1,(R.dis q hq).2.ext (Ext.write (H:=H) (o:=o) hm) (R.dis q hq).1⟩,fun j v q=>?_⟩
 by_cases e:i=j
 ·subst e
  have hi:i < h.length:=by
   have:=(List.getElem?_eq_some_iff.mp q).1
   simpa using this
  rw [List.getElem?_set_self hi] at q
  cases q
  exact ⟨p,hp,r⟩
 ·rw [List.getElem?_set_ne e] at q
  obtain ⟨a,ea,ra⟩:=R.obj j v q
  refine ⟨a,ea,ra.mono (Ext.write hm) (upd_ne fun z=>e ?_)⟩
  subst z
  exact (List.getElem?_inj (List.getElem?_eq_some_iff.mp hp).1 R.nd).mp (hp.trans ea.symm)
theorem HRel.lst(R:HRel K α H h){i:Nat}{xs:List D}(e:h[i]?=some (.lst xs)):∃ p us,α[i]?=some p∧H p=some (.lst us)∧RelDs K α H xs us:=by
 obtain ⟨p,ep,r⟩:=R.obj i _ e
 cases r with
 |lst h t=>exact ⟨p,_,ep,h,t⟩
theorem HRel.dT(R:HRel K α H h){i:Nat}{z:Option Obj}{xs:List (List Key×D)}(e:h[i]?=some (.dT z xs)):∃ p us,α[i]?=some p∧H p=some (frzO z (.dT us))∧RelKV K α H xs us:=by
 obtain ⟨p,ep,r⟩:=R.obj i _ e
 cases r with
 |dT h t=>exact ⟨p,_,ep,h,t⟩
theorem HRel.dK(R:HRel K α H h){i:Nat}{xs:List (Key×D)}(e:h[i]?=some (.dK xs)):∃ p us,α[i]?=some p∧H p=some (.dK us)∧RelKV K α H xs us:=by
 obtain ⟨p,ep,r⟩:=R.obj i _ e
 cases r with
 |dK h t=>exact ⟨p,_,ep,h,t⟩
end
theorem HRel.outP{K:KP}{α:List Addr}{H:Hp}{h:List O}(R:HRel K α H h){p:Addr}(hp:H p=none):p ∉ K.π:=fun z=>(R.dis p z).2.1 hp
structure Priv(D:Addr)(H H':Hp):Prop where
 same:∀ b,b ≠ D→H' b=H b
theorem VT.priv{K:KP}{α:List Addr}{H H':Hp}{D a:Addr}{us:List V}(e:Priv D H H')(hD:D ∈ K.π)(h:VT K α H a us):VT K α H' a us :=
 ⟨h.1,h.2.1,(e.same a fun z=>h.2.1 (z ▸ hD)).trans h.2.2⟩
theorem VS.priv{K:KP}{α:List Addr}{H H':Hp}{D a:Addr}{us:List V}(e:Priv D H H')(hD:D ∈ K.π)(h:VS K α H a us):VS K α H' a us:=by
 rcases h with ⟨n,m,h⟩ | h
 ·have z:a ≠ D:=fun z=>m (z ▸ hD)
  refine .inl ⟨n,m,?_⟩
  unfold Rd at h ⊢
  rw [e.same a z];exact h
 ·exact .inr h
theorem VL.priv{K:KP}{α:List Addr}{H H':Hp}{D a:Addr}{us:List V}(e:Priv D H H')(hD:D ∈ K.π)(h:VL K α H a us):VL K α H' a us :=
 ⟨h.1,h.2.1,(e.same a fun z=>h.2.1 (z ▸ hD)).trans h.2.2⟩
theorem VE.priv{K:KP}{α:List Addr}{H H':Hp}{D a:Addr}{u:HO}(e:Priv D H H')(hD:D ∈ K.π)(h:VE K α H a u):VE K α H' a u :=
 ⟨h.1,h.2.1,(e.same a fun z=>h.2.1 (z ▸ hD)).trans h.2.2⟩
theorem RelD.priv{K:KP}{α:List Addr}{H H':Hp}{D':Addr}(e:Priv D' H H')(hD:D' ∈ K.π){d:D}{v:V}(r:RelD K α H d v):RelD K α H' d v:=r.map rfl (fun _ _ t=>t.priv e hD) (fun _ _ t=>t.priv e hD) (fun _ _ t=>t.priv e hD) (fun _ _ t=>t.priv e hD) (fun _ _ h=>h)
theorem RelDs.priv{K:KP}{α:List Addr}{H H':Hp}{D':Addr}(e:Priv D' H H')(hD:D' ∈ K.π){ds:List D}{us:List V}(r:RelDs K α H ds us):RelDs K α H' ds us:=r.map rfl (fun _ _ t=>t.priv e hD) (fun _ _ t=>t.priv e hD) (fun _ _ t=>t.priv e hD) (fun _ _ t=>t.priv e hD) (fun _ _ h=>h)
theorem RelKV.priv{K:KP}{α:List Addr}{H H':Hp}{D':Addr}{κ:Type}(e:Priv D' H H')(hD:D' ∈ K.π){ds:List (κ×D)}{us:List (κ×V)}(r:RelKV K α H ds us):RelKV K α H' ds us:=by
 induction r with
 |nil=>exact .nil
 |cons h t ih=>exact .cons (h.priv e hD) ih
theorem HRel.priv{K:KP}{α:List Addr}{H H':Hp}{h:List O}{D':Addr}(e:Priv D' H H')(hD:D' ∈ K.π)(hs:NoT (H' D'))(R:HRel K α H h):HRel K α H' h :=
 ⟨R.len,R.nd,fun p hp=>⟨(R.dis p hp).1,by
  by_cases z:p=D'
  ·rw [z];exact hs
  ·rw [e.same p z];exact (R.dis p hp).2⟩,fun i o q=>by
  obtain ⟨p,ep,r⟩:=R.obj i o q
  have z:p ≠ D':=fun z=>(R.dis D' hD).1 (z ▸ List.mem_of_getElem? ep)
  refine ⟨p,ep,?_⟩
  cases r with
  |lst h t=>exact .lst ((e.same p z).trans h) (t.priv e hD)
  |dT h t=>exact .dT ((e.same p z).trans h) (t.priv e hD)
  |dK h t=>exact .dK ((e.same p z).trans h) (t.priv e hD)
  |ins n h t=>exact .ins n ((e.same p z).trans h) (t.priv e hD)⟩
theorem VT.more{K:PySem.W.Frag}{π π':List Addr}{α:List Addr}{H:Hp}{a:Addr}{us:List V}(s:∀ p ∈ π',p ∈ π∨H p=none)(h:VT ⟨K,π⟩ α H a us):VT ⟨K,π'⟩ α H a us :=
 ⟨h.1,fun z=>(s a z).elim h.2.1 (fun w=>by rw [h.2.2] at w;exact nomatch w),h.2.2⟩
theorem VS.more{K:PySem.W.Frag}{π π':List Addr}{α:List Addr}{H:Hp}{a:Addr}{us:List V}(s:∀ p ∈ π',p ∈ π∨H p=none)(h:VS ⟨K,π⟩ α H a us):VS ⟨K,π'⟩ α H a us:=by
 rcases h with ⟨n,m,h⟩ | h
 ·refine .inl ⟨n,fun z=>?_,h⟩
  rcases s a z with z | z
  ·exact m z
  ·rcases h with h | ⟨o,h⟩ <;> rw [z] at h <;> cases h
 ·exact .inr h
theorem VL.more{K:PySem.W.Frag}{π π':List Addr}{α:List Addr}{H:Hp}{a:Addr}{us:List V}(s:∀ p ∈ π',p ∈ π∨H p=none)(h:VL ⟨K,π⟩ α H a us):VL ⟨K,π'⟩ α H a us :=
 ⟨h.1,fun z=>(s a z).elim h.2.1 (fun w=>by rw [h.2.2] at w;exact nomatch w),h.2.2⟩
theorem VE.more{K:PySem.W.Frag}{π π':List Addr}{α:List Addr}{H:Hp}{a:Addr}{u:HO}(s:∀ p ∈ π',p ∈ π∨H p=none)(h:VE ⟨K,π⟩ α H a u):VE ⟨K,π'⟩ α H a u :=
 ⟨h.1,fun z=>(s a z).elim h.2.1 (fun w=>by rw [h.2.2] at w;exact nomatch w),h.2.2⟩
theorem RelD.more{K:PySem.W.Frag}{π π':List Addr}{α:List Addr}{H:Hp}(s:∀ p ∈ π',p ∈ π∨H p=none){d:D}{v:V}(r:RelD ⟨K,π⟩ α H d v):RelD ⟨K,π'⟩ α H d v:=r.map (K:=⟨K,π⟩) (K':=⟨K,π'⟩) rfl (fun _ _ t=>t.more s) (fun _ _ t=>t.more s) (fun _ _ t=>t.more s) (fun _ _ t=>t.more s) (fun _ _ h=>h)
theorem RelDs.more{K:PySem.W.Frag}{π π':List Addr}{α:List Addr}{H:Hp}(s:∀ p ∈ π',p ∈ π∨H p=none){ds:List D}{us:List V}(r:RelDs ⟨K,π⟩ α H ds us):RelDs ⟨K,π'⟩ α H ds us:=r.map (K:=⟨K,π⟩) (K':=⟨K,π'⟩) rfl (fun _ _ t=>t.more s) (fun _ _ t=>t.more s) (fun _ _ t=>t.more s) (fun _ _ t=>t.more s) (fun _ _ h=>h)
theorem RelKV.more{K:PySem.W.Frag}{π π':List Addr}{α:List Addr}{H:Hp}{κ:Type}(s:∀ p ∈ π',p ∈ π∨H p=none){ds:List (κ×D)}{us:List (κ×V)}(r:RelKV ⟨K,π⟩ α H ds us):RelKV ⟨K,π'⟩ α H ds us:=by
 induction r with
 |nil=>exact .nil
 |cons h t ih=>exact .cons (h.more s) ih
theorem HRel.more{K:PySem.W.Frag}{π π':List Addr}{α:List Addr}{H:Hp}{h:List O}(s:∀ p ∈ π',p ∈ π∨H p=none)(d:∀ p ∈ π',p ∉ α∧NoT (H p))(R:HRel ⟨K,π⟩ α H h):HRel ⟨K,π'⟩ α H h :=
 ⟨R.len,R.nd,d,fun i o q=>by
  obtain ⟨p,ep,r⟩:=R.obj i o q
  refine ⟨p,ep,?_⟩
  cases r with
  |lst h t=>exact .lst h (t.more s)
  |dT h t=>exact .dT h (t.more s)
  |dK h t=>exact .dK h (t.more s)
  |ins n h t=>exact .ins n h (t.more s)⟩
noncomputable abbrev Sl:=List (Option D)
noncomputable abbrev Hh:=List O
noncomputable abbrev DK:=D→Hh→Prop
noncomputable abbrev DE:=Sl→Hh→DK→Prop
noncomputable abbrev DT:=Sl→Hh→(Bool→Hh→Prop)→Prop
noncomputable abbrev DA:=Sl→Hh→(List D→Hh→Prop)→Prop
noncomputable abbrev DX:=Str→List (Str×Int)→Hh→Prop
structure DEnds where
 nx:Sl→Hh→Prop
 rt:DK
 bk:Sl→Hh→Prop:=fun _ _=>False
 ct:Sl→Hh→Prop:=fun _ _=>False
 ex:DX:=fun _ _ _=>False
noncomputable abbrev DS:=DEnds→Sl→Hh→Prop
noncomputable abbrev DG:=D→Sl→Hh→(Sl→Hh→Prop)→Prop
noncomputable abbrev DGs:=List D→Sl→Hh→(Sl→Hh→Prop)→Prop
structure RelS(K:KP)(α:List Addr)(H:Hp)(δ:Sl)(σ:St):Prop where
 len:δ.length=σ.length
 get:∀ (i:Nat) (d:D),δ[i]?=some (some d)→∃ v,σ[i]?=some (some v)∧RelD K α H d v
theorem RelS.mono{K:KP}{α α':List Addr}{H H':Hp}{δ:Sl}{σ:St}(e:Ext α H α' H')(r:RelS K α H δ σ):RelS K α' H' δ σ :=
 ⟨r.len,fun i d q=>let ⟨v,h1,h2⟩:=r.get i d q;⟨v,h1,h2.mono e⟩⟩
theorem RelS.set{K:KP}{α:List Addr}{H:Hp}{δ:Sl}{σ:St}{d:D}{v:V}(r:RelS K α H δ σ)(i:Nat)(h:RelD K α H d v):RelS K α H (δ.set i (some d)) (σ.set i (some v)):=by
 refine ⟨by simp [r.len],fun j e q=>?_⟩
 by_cases z:i=j
 ·subst z
  have hi:i < δ.length:=by
   have:=(List.getElem?_eq_some_iff.mp q).1
   simpa using this
  rw [List.getElem?_set_self hi] at q
  cases q
  exact ⟨v,List.getElem?_set_self (by rw [← r.len];exact hi),h⟩
 ·rw [List.getElem?_set_ne z] at q
  obtain ⟨w,h1,h2⟩:=r.get j e q
  exact ⟨w,by rw [List.getElem?_set_ne z];exact h1,h2⟩
inductive LE(K:PySem.W.Frag)(f:DE)(σ:St)(H:Hp)(Q:VK):Prop
 |mk (π:List Addr) (α:List Addr) (δ:Sl) (h:Hh) (Q':DK):HRel ⟨K,π⟩ α H h→RelS ⟨K,π⟩ α H δ σ→f δ h Q'→(∀ d h' α' H' v,Q' d h'→Ext α H α' H'→HRel ⟨K,π⟩ α' H' h'→RelD ⟨K,π⟩ α' H' d v→Q v H')→LE K f σ H Q
inductive LT(K:PySem.W.Frag)(f:DT)(σ:St)(H:Hp)(Q:Bool→Hp→Prop):Prop
 |mk (π:List Addr) (α:List Addr) (δ:Sl) (h:Hh) (Q':Bool→Hh→Prop):HRel ⟨K,π⟩ α H h→RelS ⟨K,π⟩ α H δ σ→f δ h Q'→(∀ b h' α' H',Q' b h'→Ext α H α' H'→HRel ⟨K,π⟩ α' H' h'→Q b H')→LT K f σ H Q
inductive LA(K:PySem.W.Frag)(n:Nat)(f:DA)(σ:St)(H:Hp)(Q:List V→Hp→Prop):Prop
 |mk (π:List Addr) (α:List Addr) (δ:Sl) (h:Hh) (Q':List D→Hh→Prop):HRel ⟨K,π⟩ α H h→RelS ⟨K,π⟩ α H δ σ→f δ h Q'→(∀ ds h' α' H' vs,Q' ds h'→Ext α H α' H'→HRel ⟨K,π⟩ α' H' h'→RelDs ⟨K,π⟩ α' H' ds vs→ds.length=n→Q vs H')→LA K n f σ H Q
structure EndsOk(K:KP)(Ex:XK)(α:List Addr)(H:Hp)(E:DEnds)(F:Ends):Prop where
 nx:∀ δ' h' α' H' σ',E.nx δ' h'→Ext α H α' H'→HRel K α' H' h'→RelS K α' H' δ' σ'→F.nx σ' H'
 rt:∀ d h' α' H' v,E.rt d h'→Ext α H α' H'→HRel K α' H' h'→RelD K α' H' d v→F.rt v H'
 bk:∀ δ' h' α' H' σ',E.bk δ' h'→Ext α H α' H'→HRel K α' H' h'→RelS K α' H' δ' σ'→F.bk σ' H'
 ct:∀ δ' h' α' H' σ',E.ct δ' h'→Ext α H α' H'→HRel K α' H' h'→RelS K α' H' δ' σ'→F.ct σ' H'
 ex:∀ cn fs h' α' H' C dx,E.ex cn fs h'→Ext α H α' H'→HRel K α' H' h'→PySem.W.nsIn K.K mainGlobals cn=some (some (.ref C))→XQ K α' H' dx fs→Ex (.ref C) dx H'
theorem EndsOk.mono{K:KP}{Ex:XK}{α α':List Addr}{H H':Hp}{E:DEnds}{F:Ends}(x:EndsOk K Ex α H E F)(e:Ext α H α' H'):EndsOk K Ex α' H' E F :=
 ⟨fun _ _ _ _ _ a b c d=>x.nx _ _ _ _ _ a (e.trans b) c d,fun _ _ _ _ _ a b c d=>x.rt _ _ _ _ _ a (e.trans b) c d,fun _ _ _ _ _ a b c d=>x.bk _ _ _ _ _ a (e.trans b) c d,fun _ _ _ _ _ a b c d=>x.ct _ _ _ _ _ a (e.trans b) c d,fun _ _ _ _ _ _ _ a b c d=>x.ex _ _ _ _ _ _ _ a (e.trans b) c d⟩
inductive LS(K:PySem.W.Frag)(Ex:XK)(f:DS)(F:Ends)(σ:St)(H:Hp):Prop
 |mk (π:List Addr) (α:List Addr) (δ:Sl) (h:Hh) (E:DEnds):HRel ⟨K,π⟩ α H h→RelS ⟨K,π⟩ α H δ σ→f E δ h→EndsOk ⟨K,π⟩ Ex α H E F→LS K Ex f F σ H
inductive LG(K:PySem.W.Frag)(f:DG)(v:V)(σ:St)(H:Hp)(Q:St→Hp→Prop):Prop
 |mk (π:List Addr) (α:List Addr) (δ:Sl) (h:Hh) (d:D) (Q':Sl→Hh→Prop):HRel ⟨K,π⟩ α H h→RelS ⟨K,π⟩ α H δ σ→RelD ⟨K,π⟩ α H d v→f d δ h Q'→(∀ δ' h' α' H' σ',Q' δ' h'→Ext α H α' H'→HRel ⟨K,π⟩ α' H' h'→RelS ⟨K,π⟩ α' H' δ' σ'→Q σ' H')→LG K f v σ H Q
inductive LGs(K:PySem.W.Frag)(f:DGs)(vs:List V)(σ:St)(H:Hp)(Q:St→Hp→Prop):Prop
 |mk (π:List Addr) (α:List Addr) (δ:Sl) (h:Hh) (ds:List D) (Q':Sl→Hh→Prop):HRel ⟨K,π⟩ α H h→RelS ⟨K,π⟩ α H δ σ→RelDs ⟨K,π⟩ α H ds vs→f ds δ h Q'→(∀ δ' h' α' H' σ',Q' δ' h'→Ext α H α' H'→HRel ⟨K,π⟩ α' H' h'→RelS ⟨K,π⟩ α' H' δ' σ'→Q σ' H')→LGs K f vs σ H Q
theorem HRel.under{K:PySem.W.Frag}{π α:List Addr}{H:Hp}{h:Hh}{p:Addr}{o:HO}(R:HRel ⟨K,π⟩ α H h)(hp:H p=none)(ho:∀ us,o ≠ .tup us:=by intro _ z;cases z):HRel ⟨K,p :: π⟩ α (upd H p o) h:=by
 have s:∀ q ∈ p :: π,q ∈ π∨H q=none:=fun q hq=>by
  rcases List.mem_cons.mp hq with rfl | z
  ·exact .inr hp
  ·exact .inl z
 refine ⟨R.len,R.nd,fun q hq=>?_,fun i ob e=>?_⟩
 ·rcases List.mem_cons.mp hq with rfl | z
  ·exact ⟨R.out hp,by rw [upd_same];exact ⟨(fun z=>by cases z),fun us z=>ho us (Option.some.inj z)⟩⟩
  ·exact ⟨(R.dis q z).1,(R.dis q z).2.ext (Ext.new (α:=α) hp) (R.dis q z).1⟩
 ·obtain ⟨a,ea,r⟩:=R.obj i ob e
  refine ⟨a,ea,?_⟩
  have k:upd H p o a=H a:=upd_ne fun z=>R.out hp (z ▸ List.mem_of_getElem? ea)
  have e2:Ext α H α (upd H p o):=Ext.new hp
  cases r with
  |lst h t=>exact .lst (k.trans h) ((t.more s).mono e2)
  |dT h t=>exact .dT (k.trans h) ((t.more s).mono e2)
  |dK h t=>exact .dK (k.trans h) ((t.more s).mono e2)
  |ins n h t=>exact .ins n (k.trans h) ((t.more s).mono e2)
theorem HRel.less{K:PySem.W.Frag}{π α:List Addr}{H:Hp}{h:Hh}{p:Addr}(R:HRel ⟨K,p :: π⟩ α H h):HRel ⟨K,π⟩ α H h :=
 R.more (fun q hq=>.inl (List.mem_cons_of_mem _ hq)) fun q hq=>R.dis q (List.mem_cons_of_mem _ hq)
theorem RelS.more{K:PySem.W.Frag}{π π' α:List Addr}{H:Hp}{δ:Sl}{σ:L2.St}(s:∀ p ∈ π',p ∈ π∨H p=none)(S:RelS ⟨K,π⟩ α H δ σ):RelS ⟨K,π'⟩ α H δ σ :=
 ⟨S.len,fun i d q=>let ⟨v,a,b⟩:=S.get i d q;⟨v,a,b.more s⟩⟩
theorem RelS.priv{K:KP}{α:List Addr}{H H':Hp}{δ:Sl}{σ:L2.St}{D':Addr}(e:Priv D' H H')(hD:D' ∈ K.π)(S:RelS K α H δ σ):RelS K α H' δ σ :=
 ⟨S.len,fun i d q=>let ⟨v,a,b⟩:=S.get i d q;⟨v,a,b.priv e hD⟩⟩
theorem Ext.grow{α α':List Addr}{H H':Hp}{p:Addr}{o:HO}(e:Ext α H α' H')(hp:H p=none):Ext α H α' (upd H' p o) :=
 ⟨e.pre,fun b u q n=>by rw [upd_ne (ne_of_none q hp)];exact e.keep b u q n,fun b q=>by
  by_cases z:b=p
  ·subst z;exact hp
  ·rw [upd_ne z] at q;exact e.dom b q⟩
theorem VT.adopt{K:PySem.W.Frag}{π α:List Addr}{H:Hp}{p a:Addr}{us:List V}(h:VT ⟨K,p :: π⟩ α H a us):VT ⟨K,π⟩ (α ++ [p]) H a us :=
 ⟨fun z=>(List.mem_append.mp z).elim h.1 fun z=>h.2.1 (by rw [List.mem_singleton.mp z];exact List.mem_cons_self),fun z=>h.2.1 (List.mem_cons_of_mem _ z),h.2.2⟩
theorem VS.adopt{K:PySem.W.Frag}{π α:List Addr}{H:Hp}{p a:Addr}{us:List V}(h:VS ⟨K,p :: π⟩ α H a us):VS ⟨K,π⟩ (α ++ [p]) H a us:=by
 rcases h with ⟨n,m,h⟩ | h
 ·refine .inl ⟨fun z=>?_,fun z=>m (List.mem_cons_of_mem _ z),h⟩
  rcases List.mem_append.mp z with z | z
  ·exact n z
  ·exact m (by rw [List.mem_singleton.mp z];exact List.mem_cons_self)
 ·exact .inr h
theorem VL.adopt{K:PySem.W.Frag}{π α:List Addr}{H:Hp}{p a:Addr}{us:List V}(h:VL ⟨K,p :: π⟩ α H a us):VL ⟨K,π⟩ (α ++ [p]) H a us :=
 ⟨fun z=>(List.mem_append.mp z).elim h.1 fun z=>h.2.1 (by rw [List.mem_singleton.mp z];exact List.mem_cons_self),fun z=>h.2.1 (List.mem_cons_of_mem _ z),h.2.2⟩
theorem VE.adopt{K:PySem.W.Frag}{π α:List Addr}{H:Hp}{p a:Addr}{u:HO}(h:VE ⟨K,p :: π⟩ α H a u):VE ⟨K,π⟩ (α ++ [p]) H a u :=
 ⟨fun z=>(List.mem_append.mp z).elim h.1 fun z=>h.2.1 (by rw [List.mem_singleton.mp z];exact List.mem_cons_self),fun z=>h.2.1 (List.mem_cons_of_mem _ z),h.2.2⟩
theorem get_app{α:List Addr}{p a:Addr}{i:Nat}(h:α[i]?=some a):(α ++ [p])[i]?=some a:=by
 rw [List.getElem?_append_left (List.getElem?_eq_some_iff.mp h).1];exact h
theorem RelD.adopt{K:PySem.W.Frag}{π α:List Addr}{H:Hp}{p:Addr}{d:D}{v:V}(r:RelD ⟨K,p :: π⟩ α H d v):RelD ⟨K,π⟩ (α ++ [p]) H d v:=r.map (K:=⟨K,p :: π⟩) (K':=⟨K,π⟩) (α':=α ++ [p]) (H':=H) rfl (fun _ _ t=>t.adopt) (fun _ _ t=>t.adopt) (fun _ _ t=>t.adopt) (fun _ _ t=>t.adopt) (fun _ _ h=>get_app h)
theorem RelDs.adopt{K:PySem.W.Frag}{π α:List Addr}{H:Hp}{p:Addr}{ds:List D}{us:List V}(r:RelDs ⟨K,p :: π⟩ α H ds us):RelDs ⟨K,π⟩ (α ++ [p]) H ds us:=r.map (K:=⟨K,p :: π⟩) (K':=⟨K,π⟩) (α':=α ++ [p]) (H':=H) rfl (fun _ _ t=>t.adopt) (fun _ _ t=>t.adopt) (fun _ _ t=>t.adopt) (fun _ _ t=>t.adopt) (fun _ _ h=>get_app h)
theorem RelKV.adopt{K:PySem.W.Frag}{π α:List Addr}{H:Hp}{p:Addr}{κ:Type}{ds:List (κ×D)}{us:List (κ×V)}(r:RelKV ⟨K,p :: π⟩ α H ds us):RelKV ⟨K,π⟩ (α ++ [p]) H ds us:=by
 induction r with
 |nil=>exact .nil
 |cons h t ih=>exact .cons h.adopt ih
theorem HRel.adopt{K:PySem.W.Frag}{π α:List Addr}{H:Hp}{h:Hh}{p:Addr}{u:O}(R:HRel ⟨K,p :: π⟩ α H h)(np:p ∉ π)(r:RelO' ⟨K,π⟩ (α ++ [p]) H p u):HRel ⟨K,π⟩ (α ++ [p]) H (h ++ [u]):=by
 have hp:=R.dis p List.mem_cons_self
 refine ⟨by simp [R.len],?_,fun q hq=>⟨fun z=>?_,(R.dis q (List.mem_cons_of_mem _ hq)).2⟩,fun i v q=>?_⟩
 ·rw [List.nodup_append]
  exact ⟨R.nd,by simp,fun a ha b hb=>by rw [List.mem_singleton.mp hb];exact fun z=>hp.1 (z ▸ ha)⟩
 ·rcases List.mem_append.mp z with z | z
  ·exact (R.dis q (List.mem_cons_of_mem _ hq)).1 z
  ·rw [List.mem_singleton.mp z] at hq;exact np hq
 ·by_cases hi:i < h.length
  ·rw [List.getElem?_append_left hi] at q
   obtain ⟨a,ea,ra⟩:=R.obj i v q
   refine ⟨a,get_app ea,?_⟩
   cases ra with
   |lst h t=>exact .lst h t.adopt
   |dT h t=>exact .dT h t.adopt
   |dK h t=>exact .dK h t.adopt
   |ins n h t=>exact .ins n h t.adopt
  ·have hi':i=h.length:=by
    have:=(List.getElem?_eq_some_iff.mp q).1
    rw [List.length_append,List.length_singleton] at this;omega
   subst hi'
   rw [List.getElem?_append_right (Nat.le_refl _)] at q
   simp at q;subst q
   exact ⟨p,by rw [List.getElem?_append_right (by rw [R.len];exact Nat.le_refl _),R.len];simp,r⟩
theorem Ext.adopt{α α':List Addr}{H H':Hp}{p:Addr}(e:Ext α H α' H')(hp:H p=none):Ext α H (α' ++ [p]) H':=by
 refine ⟨?_,e.keep,e.dom⟩
 obtain ⟨⟨β,rfl,hb⟩,_⟩:=e
 exact ⟨β ++ [p],by simp,fun q hq=>by
  rcases List.mem_append.mp hq with z | z
  ·exact hb q z
  ·rw [List.mem_singleton.mp z];exact hp⟩
section
variable (X:Cx)
noncomputable def SE(e:Expr)(f:DE):Prop:=PE X e (LE X.K f)
noncomputable def ST(e:Expr)(f:DT):Prop:=PT X e (LT X.K f)
noncomputable def SW(e:Expr)(f:DT):Prop:=PW X e (LT X.K f)
noncomputable def SA(es:List Expr)(n:Nat)(f:DA):Prop:=PA X es (LA X.K n f)
noncomputable def SS(s:Stmt)(f:DS):Prop:=PS X s (LS X.K X.ex9 f)
noncomputable def SSs(ss:List Stmt)(f:DS):Prop:=PSs X ss (LS X.K X.ex9 f)
noncomputable def SG(t:Expr)(f:DG):Prop:=PG X t (LG X.K f)
noncomputable def SGs(ts:List Expr)(f:DGs):Prop:=PGs X ts (LGs X.K f)
end
section
variable {X:Cx}
theorem PE.imp{e:Expr}{t t':TE}(h:PE X e t)(k:∀ σ H Q,t' σ H Q→t σ H Q):PE X e t':=fun pins s σ H Q I q=>h pins s σ H Q I (k σ H Q q)
theorem PT.imp{e:Expr}{t t':TT}(h:PT X e t)(k:∀ σ H Q,t' σ H Q→t σ H Q):PT X e t':=fun pins s σ H Q I q=>h pins s σ H Q I (k σ H Q q)
theorem PW.imp{e:Expr}{t t':TT}(h:PW X e t)(k:∀ σ H Q,t' σ H Q→t σ H Q):PW X e t':=fun wh pins s σ H Q I q=>h wh pins s σ H Q I (k σ H Q q)
theorem PA.imp{es:List Expr}{t t':TA}(h:PA X es t)(k:∀ σ H Q,t' σ H Q→t σ H Q):PA X es t':=fun pos pins s σ H Q I q=>h pos pins s σ H Q I (k σ H Q q)
theorem PS.imp{e:Stmt}{t t':TS}(h:PS X e t)(k:∀ F σ H,t' F σ H→t F σ H):PS X e t':=fun pins s σ H F I q=>h pins s σ H F I (k F σ H q)
theorem PSs.imp{e:List Stmt}{t t':TS}(h:PSs X e t)(k:∀ F σ H,t' F σ H→t F σ H):PSs X e t':=fun pins s σ H F I q=>h pins s σ H F I (k F σ H q)
theorem PG.imp{e:Expr}{t t':TG}(h:PG X e t)(k:∀ v σ H Q,t' v σ H Q→t v σ H Q):PG X e t':=fun pins s σ H v u Q I r q=>h pins s σ H v u Q I r (k v σ H Q q)
theorem PGs.imp{e:List Expr}{t t':TGs}(h:PGs X e t)(k:∀ v σ H Q,t' v σ H Q→t v σ H Q):PGs X e t':=fun pins s σ H v u Q I r q=>h pins s σ H v u Q I r (k v σ H Q q)
end
end DL
namespace DL
open PySem PySem.Spec L2
noncomputable def dVar(i:Nat):DE:=fun δ h Q=>match δ[i]? with | some (some d)=>Q d h | _=>False
noncomputable def dC(d:D):DE:=fun _ h Q=>Q d h
noncomputable abbrev P1:=D→Hh→DK→Prop
noncomputable abbrev P2:=D→D→Hh→DK→Prop
noncomputable abbrev PN:=List D→Hh→DK→Prop
noncomputable def dUn(p:P1)(a:DE):DE:=fun δ h Q=>a δ h fun x h1=>p x h1 Q
noncomputable def dOp(p:P2)(a b:DE):DE:=fun δ h Q=>a δ h fun x h1=>b δ h1 fun y h2=>p x y h2 Q
inductive r1(K:PySem.W.Frag)(p:P1)(x:V)(H:Hp)(Q:VK):Prop
 |mk (π:List Addr) (α:List Addr) (h:Hh) (d:D) (Q':DK):HRel ⟨K,π⟩ α H h→RelD ⟨K,π⟩ α H d x→p d h Q'→(∀ d h' α' H' v,Q' d h'→Ext α H α' H'→HRel ⟨K,π⟩ α' H' h'→RelD ⟨K,π⟩ α' H' d v→Q v H')→r1 K p x H Q
inductive r2(K:PySem.W.Frag)(p:P2)(x y:V)(H:Hp)(Q:VK):Prop
 |mk (π:List Addr) (α:List Addr) (h:Hh) (d e:D) (Q':DK):HRel ⟨K,π⟩ α H h→RelD ⟨K,π⟩ α H d x→RelD ⟨K,π⟩ α H e y→p d e h Q'→(∀ d h' α' H' v,Q' d h'→Ext α H α' H'→HRel ⟨K,π⟩ α' H' h'→RelD ⟨K,π⟩ α' H' d v→Q v H')→r2 K p x y H Q
inductive rN(K:PySem.W.Frag)(p:PN)(xs:List V)(H:Hp)(Q:VK):Prop
 |mk (π:List Addr) (α:List Addr) (h:Hh) (ds:List D) (Q':DK):HRel ⟨K,π⟩ α H h→RelDs ⟨K,π⟩ α H ds xs→p ds h Q'→(∀ d h' α' H' v,Q' d h'→Ext α H α' H'→HRel ⟨K,π⟩ α' H' h'→RelD ⟨K,π⟩ α' H' d v→Q v H')→rN K p xs H Q
section
variable {K:PySem.W.Frag} {σ:L2.St} {H:Hp} {Q:VK}
theorem un_lift{p:P1}{fa:DE}(g:LE K (dUn p fa) σ H Q):LE K fa σ H fun x H1=>r1 K p x H1 Q:=by
 obtain ⟨π,α,δ,h,Q',R,S,f,k⟩:=g
 exact ⟨π,α,δ,h,_,R,S,f,fun x h1 α1 H1 v1 f1 e1 R1 q1=>⟨π,α1,h1,x,Q',R1,q1,f1,fun d h' α' H' v a b c d'=>k d h' α' H' v a (e1.trans b) c d'⟩⟩
theorem op_lift{p:P2}{fa fb:DE}(g:LE K (dOp p fa fb) σ H Q):LE K fa σ H fun x H1=>LE K fb σ H1 fun y H2=>r2 K p x y H2 Q:=by
 obtain ⟨π,α,δ,h,Q',R,S,f,k⟩:=g
 refine ⟨π,α,δ,h,_,R,S,f,fun x h1 α1 H1 v1 f1 e1 R1 q1=>?_⟩
 refine ⟨π,α1,δ,h1,_,R1,S.mono e1,f1,fun y h2 α2 H2 v2 f2 e2 R2 q2=>?_⟩
 exact ⟨π,α2,h2,x,y,Q',R2,q1.mono e2,q2,f2,fun d h' α' H' v a b c d'=>k d h' α' H' v a (e1.trans (e2.trans b)) c d'⟩
end
theorem OpR.imp{X:Cx}{f:Value→Value→Sem Value}{r r':R2}(h:OpR X f r)(k:∀ x y H Q,r' x y H Q→r x y H Q):OpR X f r':=fun pins s σ H x y v u Q I rx ry q=>h pins s σ H x y v u Q I rx ry (k x y H Q q)
theorem UnR.imp{X:Cx}{f:Value→Sem Value}{r r':V→Hp→VK→Prop}(h:UnR X f r)(k:∀ x H Q,r' x H Q→r x H Q):UnR X f r':=fun pins s σ H x v Q I rx q=>h pins s σ H x v Q I rx (k x H Q q)
theorem IxR.imp{X:Cx}{r r':R2}(h:IxR X r)(k:∀ x y H Q,r' x y H Q→r x y H Q):IxR X r':=fun va sl pins s σ H x y v u Q I rx ry q=>h va sl pins s σ H x y v u Q I rx ry (k x y H Q q)
theorem CallR.imp{X:Cx}{f:Value}{r r':List V→Hp→VK→Prop}(h:CallR X f r)(k:∀ x H Q,r' x H Q→r x H Q):CallR X f r':=fun pins s σ H xs us Q I rx q=>h pins s σ H xs us Q I rx (k xs H Q q)
noncomputable def lsOf(h:Hh):D→Option (List D)
 |.lst xs=>some xs
 |.scr xs=>some xs
 |.ref i=>match h[i]? with | some (.lst xs)=>some xs | _=>none
 |_=>none
section
variable {K:KP} {α:List Addr} {H:Hp} {h:Hh}
theorem lsOf_sq(R:HRel K α H h):∀ {d:D} {v:V} {xs:List D},RelD K α H d v→lsOf h d=some xs→∃ p us,v = .ref p∧SqL K.K H p us∧RelDs K α H xs us
 |_,_,_,.lst t r,e=>by cases e;exact ⟨_,_,rfl,t.sq,r⟩
 |_,_,_,.scr t r,e=>by cases e;exact ⟨_,_,rfl,t.sq,r⟩
 |_,_,xs,.ref (i:=i) hp,e=>by
  have e:(match h[i]? with | some (.lst xs)=>some xs | _=>none)=some xs:=e
  cases q:h[i]? with
  |none=>rw [q] at e;cases e
  |some o =>
   rw [q] at e
   cases o with
   |lst ys =>
    cases e
    obtain ⟨p,us,e1,e2,e3⟩:=R.lst q
    rw [hp] at e1;cases e1
    exact ⟨_,us,rfl,SqL.of e2,e3⟩
   |_=>cases e
 |_,_,_,.non,e=>nomatch e
 |_,_,_,.bl _,e=>nomatch e
 |_,_,_,.int _,e=>nomatch e
 |_,_,_,.str _,e=>nomatch e
 |_,_,_,.tup _ _,e=>nomatch e
theorem tup_sq{d:List D}{v:V}(r:RelD K α H (.tup d) v):∃ p us,v = .ref p∧SqT K.K H p us∧RelDs K α H d us:=by
 cases r with
 |tup t r=>exact ⟨_,_,rfl,t.sq,r⟩
end
section
variable {X:Cx} {a b c e:Expr} {fa fb fc:DE} {pos:Pos}
theorem sv(i:Nat){x:Str}{pos:Pos}(hN:X.N[i]?=some x:=by rfl)(hv:Vis X.env.scope x:=by trivial)(hd:(x == ("__debug__":Str))=false:=by decide)
  (hcd:(x == ("__classdict__":Str))=false:=by decide):SE X (.Name x pos) (dVar i):=PE.imp (pe_var hN hv hd hcd) fun σ H Q ⟨π,α,δ,h,Q',R,S,f,k⟩=>by
 unfold dVar at f
 split at f
 ·rename_i d e
  obtain ⟨v,h1,h2⟩:=S.get i d e
  exact ⟨v,h1,k d h α H v f (Ext.refl ..) R h2⟩
 ·exact f.elim
theorem sc_lift{v:V}{d:D}(r:∀ π α H,RelD ⟨X.K,π⟩ α H d v)(h:PE X e (tC v)):SE X e (dC d):=PE.imp h fun σ H Q ⟨π,α,δ,h,Q',R,S,f,k⟩=>k d h α H v f (Ext.refl ..) R (r π α H)
theorem se_int{i j pos}:SE X (.Constant (.int i) j pos) (dC (.int i)):=sc_lift (fun _ _ _=>.int i) pe_int
theorem se_bl{i j pos}:SE X (.Constant (.bool i) j pos) (dC (.bl i)):=sc_lift (fun _ _ _=>.bl i) pe_bl
theorem se_non{j pos}:SE X (.Constant .none j pos) (dC .non):=sc_lift (fun _ _ _=>.non) pe_non
theorem se_str{i j pos}:SE X (.Constant (.str i) j pos) (dC (.str i)):=sc_lift (fun _ _ _=>.str i) pe_str
theorem se_op{op:Operator}{p:P2}(ho:OpR X (binaryOp op) (r2 X.K p))(ha:SE X a fa)(hb:SE X b fb):SE X (.BinOp a op b pos) (dOp p fa fb):=PE.imp (pe_op ho ha hb) fun _ _ _ g=>op_lift g
theorem se_un{op:UnaryOp}{p:P1}(ho:UnR X (unaryOp op) (r1 X.K p))(ha:SE X a fa):SE X (.UnaryOp op a pos) (dUn p fa):=PE.imp (pe_un ho ha) fun _ _ _ g=>un_lift g
theorem se_ix{p:P2}(ho:IxR X (r2 X.K p))(ha:SE X a fa)(hb:SE X b fb)(hs:PlainIx b):SE X (.Subscript a b pos) (dOp p fa fb):=PE.imp (pe_ix ho ha hb hs) fun _ _ _ g=>op_lift g
theorem se_cmp{op:CmpOp}{p:P2}(ho:OpR X (compareOp op) (r2 X.K p))(ha:SE X a fa)(hb:SE X b fb)(hm:behindInMarks op b=false):SE X (.Compare a [op] [b] pos) (dOp p fa fb):=PE.imp (pe_cmpR ho ha hb hm) fun _ _ _ g=>op_lift g
noncomputable def dTst(f:DE):DT:=fun δ h Q=>f δ h fun d h'=>match d with | .bl b=>Q b h' | _=>False
theorem tst_lift{K:PySem.W.Frag}{f:DE}{σ:L2.St}{H:Hp}{Q:Bool→Hp→Prop}(g:LT K (dTst f) σ H Q):LE K f σ H fun x H'=>∃ k,x = .bl k∧Q k H':=by
 obtain ⟨π,α,δ,h,Q',R,S,f,k⟩:=g
 refine ⟨π,α,δ,h,_,R,S,f,fun d h1 α1 H1 v1 f1 e1 R1 q1=>?_⟩
 cases q1 with
 |bl b=>exact ⟨b,rfl,k b h1 α1 H1 f1 e1 R1⟩
 |_=>exact f1.elim
theorem st_cmp{op:CmpOp}{p:P2}(ho:OpR X (compareOp op) (r2 X.K p))(ha:SE X a fa)(hb:SE X b fb)(hm:behindInMarks op b=false):ST X (.Compare a [op] [b] pos) (dTst (dOp p fa fb)):=PT.imp (pt_cmpR ho ha hb hm) fun _ _ _ g=>by
 obtain ⟨π,α,δ,h,Q',R,S,f,k⟩:=tst_lift g
 exact op_lift (Q:=fun x H'=>∃ k,x = .bl k∧_) ⟨π,α,δ,h,Q',R,S,f,k⟩
noncomputable def trD(h:Hh):D→Option Bool
 |.non=>some false
 |.bl b=>some b
 |.int i=>some (i != 0)
 |.str x=>if x.length ≤ 16777216 then some ((x.length:Int) != 0) else none
 |.tup xs=>some (!xs.isEmpty)
 |.lst xs=>some (!xs.isEmpty)
 |.scr xs=>some (!xs.isEmpty)
 |.ref i=>match h[i]? with | some (.lst xs)=>some (!xs.isEmpty) | _=>none
 |.exc _ _=>none
noncomputable def dTr(f:DE):DT:=fun δ h Q=>f δ h fun d h'=>match trD h' d with | some b=>Q b h' | none=>False
theorem isEmpty_rel{K:KP}{α:List Addr}{H:Hp}{ds:List D}{us:List V}(r:RelDs K α H ds us):ds.isEmpty=us.isEmpty:=by cases r <;> rfl
theorem tr_ok{K:KP}{α:List Addr}{H:Hp}{h:Hh}(R:HRel K α H h){d:D}{v:V}{k:Bool}(r:RelD K α H d v)(e:trD h d=some k):TruV K.K v H k:=by
 cases r with
 |non=>cases e;exact rfl
 |bl b=>cases e;exact rfl
 |int i=>cases e;exact rfl
 |str x =>
  have e:(if x.length ≤ 16777216 then some ((x.length:Int) != 0) else none)=some k:=e
  split at e
  ·rename_i hl
   cases e
   exact ⟨by rw [sizeLine_eq];exact hl,rfl⟩
  ·cases e
 |tup t r=>cases e;exact .inr (.inl ⟨_,t.sq,by rw [isEmpty_rel r]⟩)
 |lst t r=>cases e;exact .inl ⟨_,t.sq,by rw [isEmpty_rel r]⟩
 |scr t r=>cases e;exact .inl ⟨_,t.sq,by rw [isEmpty_rel r]⟩
 |exc _ _ _=>cases e
 |@ref i a hp =>
  have e:(match h[i]? with | some (.lst xs)=>some (!xs.isEmpty) | _=>none)=some k:=e
  cases q:h[i]? with
  |none=>rw [q] at e;cases e
  |some o =>
   rw [q] at e
   cases o with
   |lst ys =>
    cases e
    obtain ⟨p,us,e1,e2,e3⟩:=R.lst q
    rw [hp] at e1;cases e1
    exact .inl ⟨us,SqL.of e2,by rw [isEmpty_rel e3]⟩
   |_=>cases e
theorem st_truth(ha:SE X a fa)(he:∀ whole,isTrue a X.env whole=(do let v ← whole;standAt a.pos;holding [v] (truthy v)):=by intro _;rfl):ST X a (dTr fa):=PT.imp (pt_truth ha he) fun σ H Q zz0=>by
 obtain ⟨π,α,δ,h,Q',R,S,f,k⟩:=zz0
 refine ⟨π,α,δ,h,_,R,S,f,fun d h1 α1 H1 v1 f1 e1 R1 q1=>?_⟩
 cases q:trD h1 d with
 |none=>rw [q] at f1;exact f1.elim
 |some b=>rw [q] at f1;exact ⟨b,tr_ok R1 q1 q,k b h1 α1 H1 f1 e1 R1⟩
noncomputable def dAnd(t u:DT):DT:=fun δ h Q=>t δ h fun c h1=>if c=true then u δ h1 Q else Q false h1
noncomputable def dOr(t u:DT):DT:=fun δ h Q=>t δ h fun c h1=>if c=true then Q true h1 else u δ h1 Q
noncomputable def dNot(t:DT):DT:=fun δ h Q=>t δ h fun c h1=>Q (!c) h1
variable {ga gb:DT} {rest:List Expr}
theorem sw_and1(ha:ST X a ga):SW X (.BoolOp .And [a] pos) ga:=pw_and1 ha
theorem sw_or1(ha:ST X a ga):SW X (.BoolOp .Or [a] pos) ga:=pw_or1 ha
theorem sw_and(ha:ST X a ga)(hb:SW X (.BoolOp .And (b :: rest) pos) gb):SW X (.BoolOp .And (a :: b :: rest) pos) (dAnd ga gb):=PW.imp (pw_and ha hb) fun σ H Q zz0=>by
 obtain ⟨π,α,δ,h,Q',R,S,f,k⟩:=zz0
 refine ⟨π,α,δ,h,_,R,S,f,fun c h1 α1 H1 f1 e1 R1=>?_⟩
 cases c with
 |true=>exact iteT ⟨π,α1,δ,h1,Q',R1,S.mono e1,by simpa using f1,fun b h' α' H' a e c=>k b h' α' H' a (e1.trans e) c⟩
 |false=>exact iteF (k false h1 α1 H1 (by simpa using f1) e1 R1)
theorem sw_or(ha:ST X a ga)(hb:SW X (.BoolOp .Or (b :: rest) pos) gb):SW X (.BoolOp .Or (a :: b :: rest) pos) (dOr ga gb):=PW.imp (pw_or ha hb) fun σ H Q zz0=>by
 obtain ⟨π,α,δ,h,Q',R,S,f,k⟩:=zz0
 refine ⟨π,α,δ,h,_,R,S,f,fun c h1 α1 H1 f1 e1 R1=>?_⟩
 cases c with
 |true=>exact iteT (k true h1 α1 H1 (by simpa using f1) e1 R1)
 |false=>exact iteF ⟨π,α1,δ,h1,Q',R1,S.mono e1,by simpa using f1,fun b h' α' H' a e c=>k b h' α' H' a (e1.trans e) c⟩
theorem st_w(h:SW X e ga):ST X e ga:=PW.pt h
theorem st_not(ha:ST X a ga):ST X (.UnaryOp .Not a pos) (dNot ga):=PT.imp (pt_not ha) fun σ H Q ⟨π,α,δ,h,Q',R,S,f,k⟩=>⟨π,α,δ,h,_,R,S,f,fun c h1 α1 H1 f1 e1 R1=>k (!c) h1 α1 H1 f1 e1 R1⟩
noncomputable def dAndV(a b:DE):DE:=fun δ h Q=>a δ h fun x h1=>match x with | .bl k=>if k=true then b δ h1 Q else Q (.bl false) h1 | _=>False
noncomputable def dOrV(a b:DE):DE:=fun δ h Q=>a δ h fun x h1=>match x with | .bl k=>if k=true then Q (.bl true) h1 else b δ h1 Q | _=>False
noncomputable def dNotV(a:DE):DE:=fun δ h Q=>a δ h fun x h1=>match x with | .bl b=>Q (.bl (!b)) h1 | _=>False
theorem se_one{op}(h:SE X a fa):SE X (.BoolOp op [a] pos) fa:=pe_one h
theorem se_and(ha:SE X a fa)(hb:SE X (.BoolOp .And (b :: rest) pos) fb):SE X (.BoolOp .And (a :: b :: rest) pos) (dAndV fa fb):=PE.imp (pe_and ha hb) fun σ H Q zz0=>by
 obtain ⟨π,α,δ,h,Q',R,S,f,k⟩:=zz0
 refine ⟨π,α,δ,h,_,R,S,f,fun x h1 α1 H1 v1 f1 e1 R1 q1=>?_⟩
 cases q1 with
 |bl c =>
  refine ⟨c,rfl,?_⟩
  cases c with
  |true=>exact iteT ⟨π,α1,δ,h1,Q',R1,S.mono e1,by simpa using f1,fun d h' α' H' v a e c d'=>k d h' α' H' v a (e1.trans e) c d'⟩
  |false=>exact iteF (k _ h1 α1 H1 _ (by simpa using f1) e1 R1 (.bl false))
 |_=>exact f1.elim
theorem se_or(ha:SE X a fa)(hb:SE X (.BoolOp .Or (b :: rest) pos) fb):SE X (.BoolOp .Or (a :: b :: rest) pos) (dOrV fa fb):=PE.imp (pe_or ha hb) fun σ H Q zz0=>by
 obtain ⟨π,α,δ,h,Q',R,S,f,k⟩:=zz0
 refine ⟨π,α,δ,h,_,R,S,f,fun x h1 α1 H1 v1 f1 e1 R1 q1=>?_⟩
 cases q1 with
 |bl c =>
  refine ⟨c,rfl,?_⟩
  cases c with
  |true=>exact iteT (k _ h1 α1 H1 _ (by simpa using f1) e1 R1 (.bl true))
  |false=>exact iteF ⟨π,α1,δ,h1,Q',R1,S.mono e1,by simpa using f1,fun d h' α' H' v a e c d'=>k d h' α' H' v a (e1.trans e) c d'⟩
 |_=>exact f1.elim
theorem se_not(ha:SE X a fa):SE X (.UnaryOp .Not a pos) (dNotV fa):=PE.imp (pe_not ha) fun σ H Q zz0=>by
 obtain ⟨π,α,δ,h,Q',R,S,f,k⟩:=zz0
 refine ⟨π,α,δ,h,_,R,S,f,fun x h1 α1 H1 v1 f1 e1 R1 q1=>?_⟩
 cases q1 with
 |bl c=>exact ⟨c,rfl,k _ h1 α1 H1 _ f1 e1 R1 (.bl (!c))⟩
 |_=>exact f1.elim
noncomputable def dIf(t:DT)(a b:DE):DE:=fun δ h Q=>t δ h fun c h1=>if c=true then a δ h1 Q else b δ h1 Q
theorem se_if(hc:ST X c ga)(ha:SE X a fa)(hb:SE X b fb):SE X (.IfExp c a b pos) (dIf ga fa fb):=PE.imp (pe_ifExp hc ha hb) fun σ H Q zz0=>by
 obtain ⟨π,α,δ,h,Q',R,S,f,k⟩:=zz0
 refine ⟨π,α,δ,h,_,R,S,f,fun c h1 α1 H1 f1 e1 R1=>?_⟩
 cases c with
 |true=>exact iteT ⟨π,α1,δ,h1,Q',R1,S.mono e1,by simpa using f1,fun d h' α' H' v a e c d'=>k d h' α' H' v a (e1.trans e) c d'⟩
 |false=>exact iteF ⟨π,α1,δ,h1,Q',R1,S.mono e1,by simpa using f1,fun d h' α' H' v a e c d'=>k d h' α' H' v a (e1.trans e) c d'⟩
noncomputable def dNil:DA:=fun _ h Q=>Q [] h
noncomputable def dCons(a:DE)(r:DA):DA:=fun δ h Q=>a δ h fun x h1=>r δ h1 fun xs h2=>Q (x :: xs) h2
variable {es:List Expr} {n:Nat} {fs:DA}
theorem sa_nil:SA X [] 0 dNil:=PA.imp pa_nil fun σ H Q ⟨π,α,δ,h,Q',R,S,f,k⟩=>k [] h α H [] f (Ext.refl ..) R .nil rfl
theorem sa_cons(ha:SE X e fa)(hr:SA X es n fs)(hs:starEach (e :: es) X.env=(false,eval e X.env) :: starEach es X.env:=by rfl):SA X (e :: es) (n + 1) (dCons fa fs):=PA.imp (pa_cons ha hr hs) fun σ H Q zz0=>by
 obtain ⟨π,α,δ,h,Q',R,S,f,k⟩:=zz0
 refine ⟨π,α,δ,h,_,R,S,f,fun x h1 α1 H1 v1 f1 e1 R1 q1=>?_⟩
 refine ⟨π,α1,δ,h1,_,R1,S.mono e1,f1,fun ds h2 α2 H2 vs f2 e2 R2 q2 l2=>?_⟩
 exact k (x :: ds) h2 α2 H2 (v1 :: vs) f2 (e1.trans e2) R2 (.cons (q1.mono e2) q2) (by rw [List.length_cons,l2])
noncomputable def dTup(f:DA):DE:=fun δ h Q=>f δ h fun ds h1=>Q (.tup ds) h1
theorem se_tup{x1}(hf:SA X es n fs)(hn:n ≤ sizeLine:=by decide):SE X (.Tuple es x1 pos) (dTup fs):=PE.imp (pe_tup hf) fun σ H Q zz0=>by
 obtain ⟨π,α,δ,h,Q',R,S,f,k⟩:=zz0
 refine ⟨π,α,δ,h,_,R,S,f,fun ds h1 α1 H1 vs f1 e1 R1 q1 l1=>⟨by rw [← q1.length,l1];exact hn,fun p hp=>?_⟩⟩
 have e2:Ext α1 H1 α1 (upd H1 p (.tup vs)):=Ext.new hp
 exact k (.tup ds) h1 α1 _ _ f1 (e1.trans e2) (R1.new hp) (.tup ⟨R1.out hp,R1.outP hp,upd_same⟩ (q1.mono e2))
noncomputable abbrev DN:=Sl→Hh→(List D→Hh→Prop)→Prop
inductive LN(K:PySem.W.Frag)(f:DN)(σ:St)(H:Hp)(Q:VK):Prop
 |mk (π:List Addr) (α:List Addr) (δ:Sl) (h:Hh) (Q':List D→Hh→Prop):HRel ⟨K,π⟩ α H h→RelS ⟨K,π⟩ α H δ σ→f δ h Q'→(∀ ds h' α' H' us p,Q' ds h'→Ext α H α' H'→HRel ⟨K,p :: π⟩ α' H' h'→RelDs ⟨K,p :: π⟩ α' H' ds us→H' p=some (.lst us)→H p=none→p ∉ π→Q (.ref p) H')→LN K f σ H Q
theorem LN.last{K:PySem.W.Frag}{π α α':List Addr}{H H':Hp}{h h':Hh}{Q:VK}{Q':List D→Hh→Prop}(k:∀ ds h' α' H' us p,Q' ds h'→Ext α H α' H'→HRel ⟨K,p :: π⟩ α' H' h'→RelDs ⟨K,p :: π⟩ α' H' ds us→H' p=some (.lst us)→H p=none→p ∉ π→Q (.ref p) H')
  {ds:List D} {us:List V} {p:Addr} (f:Q' ds h') (e:Ext α H α' H') (R:HRel ⟨K,π⟩ α' H' h') (r:RelDs ⟨K,π⟩ α' H' ds us) (hp:H' p=none):Q (.ref p) (upd H' p (.lst us)):=by
 have e2:Ext α' H' α' (upd H' p (.lst us)):=Ext.new hp
 refine k ds h' α' _ us p f (e.trans e2) (R.under hp) ((r.more fun q hq=>?_).mono e2) upd_same (e.dom p hp) (R.outP hp)
 rcases List.mem_cons.mp hq with rfl | z
 ·exact .inr hp
 ·exact .inl z
noncomputable def SN(X:Cx)(e:Expr)(f:DN):Prop:=PE X e (LN X.K f)
noncomputable def dV(f:DN):DE:=fun δ h Q=>f δ h fun ds h'=>Q (.lst ds) h'
noncomputable def dTk(f:DN):DE:=fun δ h Q=>f δ h fun ds h'=>Q (.ref h'.length) (h' ++ [.lst ds])
variable {fn:DN}
theorem se_v(hf:SN X e fn):SE X e (dV fn):=PE.imp hf fun σ H Q zz0=>by
 obtain ⟨π,α,δ,h,Q',R,S,f,k⟩:=zz0
 refine ⟨π,α,δ,h,_,R,S,f,fun ds h1 α1 H1 us p f1 e1 R1 q1 hus hp np=>?_⟩
 exact k (.lst ds) h1 α1 _ _ f1 e1 R1.less (.lst ⟨(R1.dis p List.mem_cons_self).1,np,hus⟩ (q1.more fun q hq=>.inl (List.mem_cons_of_mem _ hq)))
theorem se_t(hf:SN X e fn):SE X e (dTk fn):=PE.imp hf fun σ H Q zz0=>by
 obtain ⟨π,α,δ,h,Q',R,S,f,k⟩:=zz0
 refine ⟨π,α,δ,h,_,R,S,f,fun ds h1 α1 H1 us p f1 e1 R1 q1 hus hp np=>?_⟩
 refine k (.ref h1.length) (h1 ++ [.lst ds]) (α1 ++ [p]) _ _ f1 (e1.adopt hp) (R1.adopt np (.lst hus q1.adopt)) (.ref ?_)
 rw [← R1.len];simp
theorem sn_lst(hf:SA X es n fs)(hn:n ≤ sizeLine:=by decide):SN X (.List es pos) fs:=PE.imp (pe_lst hf) fun σ H Q zz0=>by
 obtain ⟨π,α,δ,h,Q',R,S,f,k⟩:=zz0
 refine ⟨π,α,δ,h,_,R,S,f,fun ds h1 α1 H1 vs f1 e1 R1 q1 l1=>⟨by rw [← q1.length,l1];exact hn,fun p hp=>?_⟩⟩
 exact LN.last (h:=h) k f1 e1 R1 q1 hp
end
end DL
namespace DL
open PySem PySem.Spec L2
section
variable {X:Cx}
noncomputable def pI(C:Int→Int→Prop)(g:Int→Int→Int):P2:=fun x y h Q=>match x,y with | .int i,.int j=>C i j∧Q (.int (g i j)) h | _,_=>False
noncomputable def pI0(g:Int→Int→Int):P2:=fun x y h Q=>match x,y with | .int i,.int j=>Q (.int (g i j)) h | _,_=>False
noncomputable def pB0(g:Int→Int→Bool):P2:=fun x y h Q=>match x,y with | .int i,.int j=>Q (.bl (g i j)) h | _,_=>False
theorem pI_ok{f:Value→Value→Sem Value}{C:Int→Int→Prop}{g:Int→Int→Int}(h:OpR X f (rI C fun i j=>.int (g i j))):OpR X f (r2 X.K (pI C g)):=OpR.imp h fun x y H Q zz0=>by
 obtain ⟨π,α,h,d,e,Q',R,r1,r2,f,k⟩:=zz0
 cases r1 with
 |int i =>
  cases r2 with
  |int j=>exact ⟨i,j,rfl,rfl,f.1,k _ h α H _ f.2 (Ext.refl ..) R (.int _)⟩
  |_=>exact f.elim
 |_=>exact f.elim
theorem pI0_ok{f:Value→Value→Sem Value}{g:Int→Int→Int}(h:OpR X f (rI0 fun i j=>.int (g i j))):OpR X f (r2 X.K (pI0 g)):=OpR.imp h fun x y H Q zz0=>by
 obtain ⟨π,α,h,d,e,Q',R,r1,r2,f,k⟩:=zz0
 cases r1 with
 |int i =>
  cases r2 with
  |int j=>exact ⟨i,j,rfl,rfl,k _ h α H _ f (Ext.refl ..) R (.int _)⟩
  |_=>exact f.elim
 |_=>exact f.elim
theorem pB0_ok{f:Value→Value→Sem Value}{g:Int→Int→Bool}(h:OpR X f (rI0 fun i j=>.bl (g i j))):OpR X f (r2 X.K (pB0 g)):=OpR.imp h fun x y H Q zz0=>by
 obtain ⟨π,α,h,d,e,Q',R,r1,r2,f,k⟩:=zz0
 cases r1 with
 |int i =>
  cases r2 with
  |int j=>exact ⟨i,j,rfl,rfl,k _ h α H _ f (Ext.refl ..) R (.bl _)⟩
  |_=>exact f.elim
 |_=>exact f.elim
noncomputable abbrev pSub:P2:=pI0 fun i j=>i - j
noncomputable abbrev pDiv:P2:=pI (fun _ j=>0 < j∧j < 2 ^ 100) fun i j=>i / j
noncomputable abbrev pMod:P2:=pI (fun _ j=>0 < j) fun i j=>i % j
noncomputable abbrev pPow:P2:=pI CPow fun i j=>i ^ j.toNat
noncomputable abbrev pShl:P2:=pI CPow fun i j=>i * 2 ^ j.toNat
noncomputable abbrev pShr:P2:=pI (fun _ j=>0 ≤ j) fun i j=>i / 2 ^ j.toNat
noncomputable abbrev pBand:P2:=pI0 fun i j=>Builtin.bitAnd i j
noncomputable abbrev pBor:P2:=pI0 fun i j=>Builtin.bitOr i j
noncomputable abbrev pLtI:P2:=pB0 fun i j=>decide (i < j)
noncomputable abbrev pLe:P2:=pB0 fun i j=>decide (i ≤ j)
noncomputable abbrev pGt:P2:=pB0 fun i j=>decide (j < i)
theorem ok_sub:OpR X (binaryOp .Sub) (r2 X.K pSub):=pI0_ok op_sub
theorem op_fdivB:OpR X (binaryOp .FloorDiv) (rI (fun _ j=>0 < j∧j < 2 ^ 100) fun i j=>.int (i / j)):=opI fun i j _ _ _ _ _ hc q=>by
 have e:i.fdiv j=i / j:=Int.fdiv_eq_ediv_of_nonneg i (by omega)
 refine PyProof.Rows.floordiv_int (by omega) (by rw [e];exact q) (.inl (PyProof.noPylong_of_log2 ?_))
 have h1:j.natAbs ≠ 0:=by omega
 rw [Nat.log2_lt h1]
 have h2:j.natAbs < 2 ^ 100:=by
  have:=hc.2
  omega
 exact Nat.lt_of_lt_of_le h2 (Nat.pow_le_pow_right (by decide) (by decide))
theorem ok_div:OpR X (binaryOp .FloorDiv) (r2 X.K pDiv):=pI_ok op_fdivB
theorem ok_mod:OpR X (binaryOp .Mod) (r2 X.K pMod):=pI_ok op_mod
theorem ok_pow:OpR X (binaryOp .Pow) (r2 X.K pPow):=pI_ok op_pow
theorem ok_shl:OpR X (binaryOp .LShift) (r2 X.K pShl):=pI_ok op_shl
theorem ok_shr:OpR X (binaryOp .RShift) (r2 X.K pShr):=pI_ok op_shr
theorem ok_band:OpR X (binaryOp .BitAnd) (r2 X.K pBand):=pI0_ok op_and
theorem ok_bor:OpR X (binaryOp .BitOr) (r2 X.K pBor):=pI0_ok op_or
theorem ok_le:OpR X (compareOp .LtE) (r2 X.K pLe):=pB0_ok op_le
theorem ok_gt:OpR X (compareOp .Gt) (r2 X.K pGt):=pB0_ok op_gt
theorem ok_ltI:OpR X (compareOp .Lt) (r2 X.K pLtI):=pB0_ok op_lt
noncomputable def pAdd:P2:=fun x y h Q=>match x,y with
 |.int i,.int j=>Q (.int (i + j)) h
 |.str a,.str b=>a.length + b.length ≤ 16777216∧Q (.str (a ++ b)) h
 |.tup a,.tup b=>a ≠ []∧a.length + b.length ≤ 16777216∧Q (.tup (a ++ b)) h
 |_,_=>False
theorem ok_add:OpR X (binaryOp .Add) (r2 X.K pAdd):=OpR.imp (op_add.or (op_add_str.or op_catT)) fun x y H Q zz0=>by
 obtain ⟨π,α,h,d,e,Q',R,r1,r2,f,k⟩:=zz0
 cases r1 with
 |int i =>
  cases r2 with
  |int j=>exact .inl ⟨i,j,rfl,rfl,k _ h α H _ f (Ext.refl ..) R (.int _)⟩
  |_=>exact f.elim
 |str i =>
  cases r2 with
  |str j=>exact .inr (.inl ⟨i,j,rfl,rfl,by rw [sizeLine_eq];exact f.1,k _ h α H _ f.2 (Ext.refl ..) R (.str _)⟩)
  |_=>exact f.elim
 |@tup a us ds t r =>
  cases r2 with
  |@tup a' us' ds' t' r' =>
   obtain ⟨f1,f2,f3⟩:=f
   have l1:=r.length
   have l2:=r'.length
   refine .inr (.inr ⟨a,a',us,us',rfl,rfl,t.sq,t'.sq,?_,by rw [sizeLine_eq,← l1,← l2];exact f2,fun z=>?_,fun z p hp=>?_⟩)
   ·intro z
    subst z
    cases r;exact f1 rfl
   ·subst z
    cases r'
    rw [List.append_nil] at f3
    exact k _ h α H _ f3 (Ext.refl ..) R (.tup t r)
   ·have e2:Ext α H α (upd H p (.tup (us ++ us'))):=Ext.new hp
    exact k _ h α _ _ f3 e2 (R.new hp) (.tup ⟨R.out hp,R.outP hp,upd_same⟩ ((r.append r').mono e2))
  |_=>exact f.elim
 |_=>exact f.elim
noncomputable def pNeg:P1:=fun x h Q=>match x with | .int i=>Q (.int (-i)) h | _=>False
theorem ok_neg:UnR X (unaryOp .USub) (r1 X.K pNeg):=UnR.imp un_neg fun x H Q zz0=>by
 obtain ⟨π,α,h,d,Q',R,r1,f,k⟩:=zz0
 cases r1 with
 |int i=>exact ⟨i,rfl,k _ h α H _ f (Ext.refl ..) R (.int _)⟩
 |_=>exact f.elim
noncomputable def isNon:D→Bool | .non=>true | _=>false
noncomputable def pIs(neg:Bool):P2:=fun x y h Q=>match y with | .non=>Q (.bl (if neg then !isNon x else isNon x)) h | _=>False
theorem isNon_rel{K:KP}{α:List Addr}{H:Hp}{d:D}{v:V}(r:RelD K α H d v):decide (v = .non)=isNon d:=by cases r <;> rfl
theorem ok_isnot:OpR X (compareOp .IsNot) (r2 X.K (pIs true)):=OpR.imp op_notN fun x y H Q zz0=>by
 obtain ⟨π,α,h,d,e,Q',R,r1,r2,f,k⟩:=zz0
 cases r2 with
 |non =>
  refine ⟨rfl,k _ h α H _ f (Ext.refl ..) R ?_⟩
  rw [isNon_rel r1];exact .bl _
 |_=>exact f.elim
theorem atI_rel{K:KP}{α:List Addr}{H:Hp}{ds:List D}{us:List V}{i:Int}{d:D}(r:RelDs K α H ds us)(e:atI ds i=some d):∃ u,atI us i=some u∧RelD K α H d u:=by
 unfold atI at e ⊢
 rw [← r.length]
 cases q:ixN ds.length i with
 |none=>rw [q] at e;cases e
 |some j =>
  rw [q] at e
  exact r.get e
noncomputable def seqOf(h:Hh):D→Option (List D)
 |.lst xs=>some xs
 |.scr xs=>some xs
 |.tup xs=>some xs
 |.ref i=>match h[i]? with | some (.lst xs)=>some xs | _=>none
 |_=>none
theorem seqOf_sq{K:KP}{α:List Addr}{H:Hp}{h:Hh}(R:HRel K α H h){d:D}{v:V}{xs:List D}(r:RelD K α H d v)(e:seqOf h d=some xs):∃ p us,v = .ref p∧(SqL K.K H p us∨SqT K.K H p us)∧RelDs K α H xs us:=by
 by_cases z:∃ ys,d = .tup ys
 ·obtain ⟨ys,rfl⟩:=z
  cases e
  obtain ⟨p,us,a,b,c⟩:=tup_sq r
  exact ⟨p,us,a,.inr b,c⟩
 ·have e':lsOf h d=some xs:=by
   cases d with
   |tup ys=>exact absurd ⟨ys,rfl⟩ z
   |lst ys=>exact e
   |scr ys=>exact e
   |ref i=>exact e
   |_=>cases e
  obtain ⟨p,us,a,b,c⟩:=lsOf_sq R r e'
  exact ⟨p,us,a,.inl b,c⟩
noncomputable def strAt(x:Str)(i:Int):Option D:=if x.length ≤ 16777216 then (atI x.cps.toList i).map fun c=>.str ⟨#[c]⟩ else none
noncomputable def ixD(h:Hh)(x y:D):Option D:=match y with
 |.int i=>match x with
  |.tup xs=>atI xs i
  |.lst xs=>atI xs i
  |.scr xs=>atI xs i
  |.ref j=>match h[j]? with | some (.lst xs)=>atI xs i | _=>none
  |.str s=>strAt s i
  |_=>none
 |_=>none
noncomputable def pIx:P2:=fun x y h Q=>match ixD h x y with | some d=>Q d h | none=>False
theorem ok_ix:IxR X (r2 X.K pIx):=IxR.imp ix_seq fun x y H Q zz0=>by
 obtain ⟨π,α,h,d,e,Q',R,r1,r2,f,k⟩:=zz0
 unfold pIx at f
 cases q:ixD h d e with
 |none=>rw [q] at f;exact f.elim
 |some z =>
  rw [q] at f
  cases r2 with
  |int i =>
   cases r1 with
   |@tup a us ds t r =>
    obtain ⟨u,e1,e2⟩:=atI_rel r q
    exact .inr (.inl ⟨_,us,i,u,rfl,rfl,t.sq,e1,k _ h α H _ f (Ext.refl ..) R e2⟩)
   |@lst a us ds t r =>
    obtain ⟨u,e1,e2⟩:=atI_rel r q
    exact .inl ⟨_,us,i,u,rfl,rfl,t.sq,e1,k _ h α H _ f (Ext.refl ..) R e2⟩
   |@scr a us ds t r =>
    obtain ⟨u,e1,e2⟩:=atI_rel r q
    exact .inl ⟨_,us,i,u,rfl,rfl,t.sq,e1,k _ h α H _ f (Ext.refl ..) R e2⟩
   |@ref j a hp =>
    have q:(match h[j]? with | some (.lst xs)=>atI xs i | _=>none)=some z:=q
    cases w:h[j]? with
    |none=>rw [w] at q;cases q
    |some o =>
     rw [w] at q
     cases o with
     |lst ys =>
      obtain ⟨p,us,e1,e2,e3⟩:=R.lst w
      rw [hp] at e1;cases e1
      obtain ⟨u,e4,e5⟩:=atI_rel e3 q
      exact .inl ⟨_,us,i,u,rfl,rfl,SqL.of e2,e4,k _ h α H _ f (Ext.refl ..) R e5⟩
     |_=>cases q
   |str s =>
    have q:strAt s i=some z:=q
    unfold strAt at q
    split at q
    ·rename_i hl
     cases w:atI s.cps.toList i with
     |none=>rw [w] at q;cases q
     |some c =>
      rw [w] at q
      cases q
      exact .inr (.inr ⟨s,i,c,rfl,rfl,by rw [sizeLine_eq];exact hl,w,k _ h α H _ f (Ext.refl ..) R (.str _)⟩)
    ·cases q
   |_=>cases q
  |_=>cases q
end
noncomputable def cutD(xs:List D)(lo hi:Option Int):List D:=(xs.drop (HT.sIx xs.length 0 lo)).take (HT.sIx xs.length xs.length hi - HT.sIx xs.length 0 lo)
theorem cut_rel{K:KP}{α:List Addr}{H:Hp}{ds:List D}{us:List V}(r:RelDs K α H ds us)(lo hi:Option Int):RelDs K α H (cutD ds lo hi) (cutV us lo hi):=by
 unfold cutD cutV
 rw [r.length]
 exact (r.drop _).take _
noncomputable abbrev DO:=Sl→Hh→(Option Int→Hh→Prop)→Prop
noncomputable def dNoPart:DO:=fun _ h Q=>Q none h
noncomputable def dPart(f:DE):DO:=fun δ h Q=>f δ h fun d h1=>match d with | .int i=>Q (some i) h1 | _=>False
inductive LO(K:PySem.W.Frag)(f:DO)(σ:St)(H:Hp)(Q:Option Int→Hp→Prop):Prop
 |mk (π:List Addr) (α:List Addr) (δ:Sl) (h:Hh) (Q':Option Int→Hh→Prop):HRel ⟨K,π⟩ α H h→RelS ⟨K,π⟩ α H δ σ→f δ h Q'→(∀ i h' α' H',Q' i h'→Ext α H α' H'→HRel ⟨K,π⟩ α' H' h'→Q i H')→LO K f σ H Q
noncomputable def SO(X:Cx)(e:Option Expr)(f:DO):Prop:=PO X e (LO X.K f)
section
variable {X:Cx} {e:Expr} {fe:DE} {lo hi:Option Expr} {fl fh:DO} {pos p2:Pos}
theorem PO.imp{o:Option Expr}{t t':TO}(h:PO X o t)(k:∀ σ H Q,t' σ H Q→t σ H Q):PO X o t':=fun pins s σ H Q I q=>h pins s σ H Q I (k σ H Q q)
theorem so_none:SO X none dNoPart:=PO.imp po_none fun σ H Q ⟨π,α,δ,h,Q',R,S,f,k⟩=>k none h α H f (Ext.refl ..) R
theorem so_some(h:SE X e fe):SO X (some e) (dPart fe):=PO.imp (po_some h) fun σ H Q zz0=>by
 obtain ⟨π,α,δ,h,Q',R,S,f,k⟩:=zz0
 refine ⟨π,α,δ,h,_,R,S,f,fun d h1 α1 H1 v1 f1 e1 R1 q1=>?_⟩
 cases q1 with
 |int i=>exact ⟨i,rfl,k (some i) h1 α1 H1 f1 e1 R1⟩
 |_=>exact f1.elim
noncomputable def rSlD(K:PySem.W.Frag):V→Option Int→Option Int→Hp→VK→Prop:=fun x lo hi H Q=>∃ a xs,x = .ref a∧SqT K H a xs∧(cutV xs lo hi=xs→Q (.ref a) H)∧∀ p,H p=none→Q (.ref p) (upd H p (.tup (cutV xs lo hi)))
theorem sl_tupD:SlR X (rSlD X.K):=by
 intro pins s σ H x v vl vu lo hi sl Q I rx hs pl pu h
 obtain ⟨a,xs,rfl,hx,q1,q2⟩:=h
 by_cases hw:HT.sIx xs.length 0 lo=0∧HT.sIx xs.length xs.length hi=xs.length
 ·cases rx
  obtain ⟨its,r,ht,hz⟩:=I.tuple hx
  have hlen:its.toArray.size=xs.length:=by rw [List.size_toArray];exact r.length.symm
  refine ⟨"tuple",_,PyProof.Rows.slot_tuple_getitem.lookup,ht.typeIs,?_⟩
  have ec:cutV xs lo hi=xs:=by
   unfold cutV
   rw [hw.1,hw.2,List.drop_zero,Nat.sub_zero,List.take_length]
  exact HT.getItem_tuple_all ht hs pl pu (by rw [hlen];exact hw) ⟨.ref a,H,I,rfl,q1 ec⟩
 ·exact sl_tup pins s σ H (.ref a) v vl vu lo hi sl Q I rx hs pl pu ⟨a,xs,rfl,hx,hw,fun p hp=>q2 p hp⟩
end
end DL
namespace DL
open PySem PySem.Spec L2
noncomputable def dName(i:Nat):DG:=fun d δ h Q=>Q (δ.set i (some d)) h
noncomputable def dGNil:DGs:=fun ds δ h Q=>match ds with | []=>Q δ h | _=>False
noncomputable def dGCons(t:DG)(u:DGs):DGs:=fun ds δ h Q=>match ds with | d :: r=>t d δ h fun δ' h'=>u r δ' h' Q | []=>False
noncomputable def dUnp(n:Nat)(t:DGs):DG:=fun d δ h Q=>match d with | .tup xs=>xs.length=n∧t xs δ h Q | _=>False
section
variable {X:Cx} {pos:Pos}
theorem sg_name{i:Nat}{x:Str}(hN:X.N.Nodup)(hi:X.N[i]?=some x)(hx:Loc X.env.scope x)(hf:X.fn x=true∨X.env.scope.names.lookup x=some .local:=by trivial):SG X (.Name x pos) (dName i):=PG.imp (pg_name hN hi hx hf) fun v σ H Q ⟨π,α,δ,h,d,Q',R,S,r,f,k⟩ =>
 k _ h α H _ f (Ext.refl ..) R (S.set i r)
theorem sgs_nil:SGs X [] dGNil:=PGs.imp pgs_nil fun vs σ H Q zz0=>by
 obtain ⟨π,α,δ,h,ds,Q',R,S,r,f,k⟩:=zz0
 cases r with
 |nil=>exact ⟨rfl,k δ h α H σ f (Ext.refl ..) R S⟩
 |cons _ _=>exact f.elim
theorem sgs_cons{e:Expr}{es:List Expr}{t:DG}{u:DGs}(h1:SG X e t)(h2:SGs X es u)(hs:(assignEach (e :: es) X.env).map (·.2)=assign e X.env :: (assignEach es X.env).map (·.2):=by rfl):SGs X (e :: es) (dGCons t u):=PGs.imp (pgs_cons h1 h2 hs) fun vs σ H Q zz0=>by
 obtain ⟨π,α,δ,h,ds,Q',R,S,r,f,k⟩:=zz0
 cases r with
 |nil=>exact f.elim
 |@cons d v ds us rd rs =>
  refine ⟨v,us,rfl,π,α,δ,h,d,_,R,S,rd,f,fun δ1 h1 α1 H1 σ1 f1 e1 R1 S1=>?_⟩
  exact ⟨π,α1,δ1,h1,ds,Q',R1,S1,rs.mono e1,f1,fun δ' h' α' H' σ' a b c d'=>k δ' h' α' H' σ' a (e1.trans b) c d'⟩
theorem sg_tup{es:List Expr}{j:Nat}{t:DGs}{n:Nat}(hc:X.calm=true)(h:SGs X es t)(hn:(assignEach es X.env).length=n:=by rfl)(hst:(assignEach es X.env).findIdx? (·.1)=none:=by rfl):SG X (.Tuple es j pos) (dUnp n t):=PG.imp (pg_tup hc h hn hst) fun v σ H Q zz0=>by
 obtain ⟨π,α,δ,h,d,Q',R,S,r,f,k⟩:=zz0
 cases r with
 |@tup a us ds t rs=>exact ⟨a,us,rfl,t.sq,by rw [← rs.length];exact f.1,π,α,δ,h,ds,Q',R,S,rs,f.2,k⟩
 |_=>exact f.elim
noncomputable def setD(o i v:D)(h:Hh)(Q:Hh→Prop):Prop:=match o,i with
 |.ref j,.int k=>match h[j]? with
  |some (.lst xs)=>match ixN xs.length k with
   |some m=>Q (h.set j (.lst (xs.set m v)))
   |none=>False
  |_=>False
 |_,_=>False
noncomputable def dSubL(fo fi:DE):DG:=fun v δ h Q=>fo δ h fun o h1=>fi δ h1 fun i h2=>setD o i v h2 fun h3=>Q δ h3
theorem set_lift{K:PySem.W.Frag}{π α:List Addr}{H:Hp}{h:Hh}{o i v:D}{ov iv vv:V}{Q':Hh→Prop}{Q:Hp→Prop}(R:HRel ⟨K,π⟩ α H h)(ro:RelD ⟨K,π⟩ α H o ov)(ri:RelD ⟨K,π⟩ α H i iv)(rv:RelD ⟨K,π⟩ α H v vv)(f:setD o i v h Q')
  (k:∀ h' H',Q' h'→Ext α H α H'→HRel ⟨K,π⟩ α H' h'→Q H'):rSetL ov iv vv H Q:=by
 unfold setD at f
 cases ro with
 |@ref j a hp =>
  cases ri with
  |int n =>
   dsimp only at f
   cases w:h[j]? with
   |none=>rw [w] at f;exact f.elim
   |some ob =>
    rw [w] at f
    cases ob with
    |lst xs =>
     dsimp only at f
     obtain ⟨p,us,e1,e2,e3⟩:=R.lst w
     rw [hp] at e1;cases e1
     cases q:ixN xs.length n with
     |none=>rw [q] at f;exact f.elim
     |some m =>
      rw [q] at f
      have e4:Ext α H α (upd H a (.lst (us.set m vv))):=Ext.write (List.mem_of_getElem? hp)
      refine ⟨a,us,n,m,rfl,rfl,e2,by rw [← e3.length];exact q,k _ _ f e4 (R.write hp (.lst upd_same ((RelDs.set rv m e3).mono e4)))⟩
    |_=>exact f.elim
  |_=>exact f.elim
 |_=>exact f.elim
theorem sg_subL{o i:Expr}{fo fi:DE}(ho:SE X o fo)(hi:SE X i fi)
  (ha:∀ v,assign (.Subscript o i pos) X.env v=(do
   let ov ← holding [v] (eval o X.env)
   let iv ← holding [v,ov] (eval i X.env)
   standAt pos
   holding [v,ov,iv] (setItem ov iv v)
   release [v,ov,iv] []):=by intro _;rfl):SG X (.Subscript o i pos) (dSubL fo fi):=PG.imp (pg_sub ho hi set_list ha) fun v σ H Q ⟨π,α,δ,h,d,Q',R,S,r,f,k⟩=>by
 refine ⟨π,α,δ,h,_,R,S,f,fun o h1 α1 H1 v1 f1 e1 R1 q1=>?_⟩
 refine ⟨π,α1,δ,h1,_,R1,S.mono e1,f1,fun i h2 α2 H2 v2 f2 e2 R2 q2=>?_⟩
 exact set_lift R2 (q1.mono e2) q2 (r.mono (e1.trans e2)) f2 fun h3 H3 f3 e3 R3=>k δ h3 α2 H3 σ f3 (e1.trans (e2.trans e3)) R3 (S.mono (e1.trans (e2.trans e3)))
end
noncomputable def dNext:DS:=fun E δ h=>E.nx δ h
noncomputable def dSeq(f g:DS):DS:=fun E δ h=>f { E with nx:=g E } δ h
noncomputable def dDrop(f:DE):DS:=fun E δ h=>f δ h fun _ h1=>E.nx δ h1
noncomputable def dRet(f:DE):DS:=fun E δ h=>f δ h E.rt
noncomputable def dIfS(t:DT)(f g:DS):DS:=fun E δ h=>t δ h fun c h1=>if c=true then f E δ h1 else g E δ h1
noncomputable def dAsg(f:DE)(g:DG):DS:=fun E δ h=>f δ h fun x h1=>g x δ h1 E.nx
section
variable {X:Cx} {s:Stmt} {ss:List Stmt} {f g:DS} {e:Expr} {fe:DE} {pos:Pos}
theorem seq_lift{K:PySem.W.Frag}{Ex:XK}{F:Ends}{σ:L2.St}{H:Hp}(w:LS K Ex (dSeq f g) F σ H):tSeq (LS K Ex f) (LS K Ex g) F σ H:=by
 obtain ⟨π,α,δ,h,E,R,S,q,k⟩:=w
 exact ⟨π,α,δ,h,{ E with nx:=g E },R,S,q,⟨fun δ' h' α' H' σ' a b c d=>⟨π,α',δ',h',E,c,d,a,k.mono b⟩,k.rt,k.bk,k.ct,k.ex⟩⟩
theorem ss_nil:SSs X [] dNext:=PSs.imp pss_nil fun F σ H ⟨π,α,δ,h,E,R,S,q,k⟩=>k.nx δ h α H σ q (Ext.refl ..) R S
theorem ss_one(h:SS X s f):SSs X [s] f:=pss_one h
theorem ss_cons(h1:SS X s f)(h2:SSs X ss g):SSs X (s :: ss) (dSeq f g):=PSs.imp (pss_cons h1 h2) fun _ _ _ w=>seq_lift w
theorem s_expr(he:SE X e fe)(hs:swapsWith e none pos.line X.env=pure false:=by rfl):SS X (.Expr e pos) (dDrop fe):=PS.imp (ps_expr he hs) fun F σ H ⟨π,α,δ,h,E,R,S,q,k⟩ =>
 ⟨π,α,δ,h,_,R,S,q,fun d h1 α1 H1 v1 f1 e1 R1 q1=>k.nx δ h1 α1 H1 σ f1 e1 R1 (S.mono e1)⟩
theorem s_ret(he:SE X e fe):SS X (.Return (some e) pos) (dRet fe):=PS.imp (ps_ret he) fun F σ H ⟨π,α,δ,h,E,R,S,q,k⟩=>⟨π,α,δ,h,_,R,S,q,fun d h1 α1 H1 v1 f1 e1 R1 q1=>k.rt d h1 α1 H1 v1 f1 e1 R1 q1⟩
theorem s_if{c:Expr}{a b:List Stmt}{t:DT}(hc:ST X c t)(ha:SSs X a f)(hb:SSs X b g):SS X (.If c a b pos) (dIfS t f g):=PS.imp (ps_if hc ha hb) fun F σ H zz0=>by
 obtain ⟨π,α,δ,h,E,R,S,q,k⟩:=zz0
 refine ⟨π,α,δ,h,_,R,S,q,fun c h1 α1 H1 f1 e1 R1=>?_⟩
 cases c with
 |true=>exact iteT ⟨π,α1,δ,h1,E,R1,S.mono e1,by simpa using f1,k.mono e1⟩
 |false=>exact iteF ⟨π,α1,δ,h1,E,R1,S.mono e1,by simpa using f1,k.mono e1⟩
theorem asg_lift{K:PySem.W.Frag}{Ex:XK}{tg:DG}{F:Ends}{σ:L2.St}{H:Hp}(w:LS K Ex (dAsg fe tg) F σ H):tAsg (LE K fe) (LG K tg) F σ H:=by
 obtain ⟨π,α,δ,h,E,R,S,q,k⟩:=w
 refine ⟨π,α,δ,h,_,R,S,q,fun d h1 α1 H1 v1 f1 e1 R1 q1=>?_⟩
 exact ⟨π,α1,δ,h1,d,E.nx,R1,S.mono e1,q1,f1,fun δ' h' α' H' σ' a b c d'=>k.nx δ' h' α' H' σ' a (e1.trans b) c d'⟩
theorem s_asg{tg:Expr}{t:DG}(he:SE X e fe)(hg:SG X tg t)(hs:swapsWithSole [tg] e pos.line X.env=pure false:=by rfl)(hw:swappedStores [tg] e X.env=pure none:=by rfl)
  (h1:(assignEach [tg] X.env).map (·.2)=[assign tg X.env]:=by rfl):SS X (.Assign [tg] e pos) (dAsg fe t):=PS.imp (ps_asg he hg hs hw h1) fun _ _ _ w=>asg_lift w
theorem asgN_lift{K:PySem.W.Frag}{Ex:XK}{i:Nat}{F:Ends}{σ:L2.St}{H:Hp}(w:LS K Ex (dAsg fe (dName i)) F σ H):tAsg (LE K fe) (gName i) F σ H:=by
 obtain ⟨π,α,δ,h,E,R,S,q,k⟩:=w
 exact ⟨π,α,δ,h,_,R,S,q,fun d h1 α1 H1 v1 f1 e1 R1 q1=>k.nx _ h1 α1 H1 _ f1 e1 R1 ((S.mono e1).set i q1)⟩
theorem s_set{i:Nat}{x:Str}{pos':Pos}(hN:X.N.Nodup)(hi:X.N[i]?=some x)(hx:Loc X.env.scope x)(he:SE X e fe)(hs:swapsWith e (some (.Name x pos')) pos.line X.env=pure false:=by rfl)(hf:X.fn x=true∨X.env.scope.names.lookup x=some .local:=by trivial) :
  SS X (.Assign [.Name x pos'] e pos) (dAsg fe (dName i)):=PS.imp (ps_set hN hi hx he hs hf) fun _ _ _ w=>asgN_lift w
end
noncomputable def whN(t:DT)(b:DS)(E:DEnds):Nat→Sl→Hh→Prop
 |0,_,_=>False
 |n + 1,δ,h=>t δ h fun c h1=>if c=true then b { E with nx:=whN t b E n,ct:=whN t b E n,bk:=E.nx } δ h1 else E.nx δ h1
noncomputable def dWhile(t:DT)(b:DS):DS:=fun E δ h=>∃ n,whN t b E n δ h
theorem s_while{X:Cx}{c:Expr}{body:List Stmt}{t:DT}{b:DS}{pos:Pos}(hp:PassesOwn (model X.prog X.w) X.A X.env X.xe)(hc:ST X c t)(hb:SSs X body b):SS X (.While c body [] pos) (dWhile t b):=PS.imp (ps_while hp hc hb) fun F σ H zz0=>by
 obtain ⟨π,α,δ,h,E,R,S,q,k⟩:=zz0
 obtain ⟨n,q⟩:=q
 refine ⟨fun m σ' H'=>∃ α' δ' h',Ext α H α' H'∧HRel ⟨X.K,π⟩ α' H' h'∧RelS ⟨X.K,π⟩ α' H' δ' σ'∧whN t b E m δ' h',⟨n,α,δ,h,Ext.refl ..,R,S,q⟩,?_⟩
 rintro m σ' H' ⟨α',δ',h',e',R',S',q'⟩
 cases m with
 |zero=>exact q'.elim
 |succ m =>
  refine ⟨π,α',δ',h',_,R',S',q',fun c h1 α1 H1 f1 e1 R1=>?_⟩
  cases c with
  |false=>exact iteF (k.nx δ' h1 α1 H1 σ' (by simpa using f1) (e'.trans e1) R1 (S'.mono e1))
  |true =>
   refine iteT ⟨fun σ2 H2=>∃ α2 δ2 h2,Ext α H α2 H2∧HRel ⟨X.K,π⟩ α2 H2 h2∧RelS ⟨X.K,π⟩ α2 H2 δ2 σ2∧whN t b E m δ2 h2,fun σ2 H2 z=>⟨m,Nat.lt_succ_self m,z⟩,?_⟩
   have f1:b { E with nx:=whN t b E m,ct:=whN t b E m,bk:=E.nx } δ' h1:=by simpa using f1
   have k1:=k.mono (e'.trans e1)
   exact ⟨π,α1,δ',h1,_,R1,S'.mono e1,f1,⟨fun δ2 h2 α2 H2 σ2 a b c d=>⟨α2,δ2,h2,e'.trans (e1.trans b),c,d,a⟩,k1.rt,k1.nx,fun δ2 h2 α2 H2 σ2 a b c d=>⟨α2,δ2,h2,e'.trans (e1.trans b),c,d,a⟩,k1.ex⟩⟩
structure Src where
 items:List D
 w:List (Nat×O)
noncomputable def Src.ok(S:Src)(h:Hh):Prop:=∀ p ∈ S.w,h[p.1]?=some p.2
theorem Src.ok_nil{xs:List D}{h:Hh}:(Src.mk xs []).ok h:=fun p hp=>nomatch hp
noncomputable abbrev DI:=Sl→Hh→(Src→Hh→Prop)→Prop
structure ItOk(K:KP)(J:It)(S:Src)(St:List Addr→Hp→Prop):Prop where
 keep:∀ α H α' H',St α H→Ext α H α' H'→St α' H'
 priv:∀ α H H' D,St α H→Priv D H H'→D ∈ K.π→St α H'
 item:∀ α H h i d,HRel K α H h→St α H→S.ok h→S.items[i]?=some d→J.go i H∧∀ x H',J.yld i H x H'→Ext α H α H'∧HRel K α H' h∧RelD K α H' d x
 stop:∀ α H h,HRel K α H h→St α H→S.ok h→J.stop S.items.length H
noncomputable def ItA(K:PySem.W.Frag)(π:List Addr)(α:List Addr)(H:Hp)(J:It)(S:Src):Prop:=∀ π',(∀ p ∈ π',p ∈ π∨H p=none)→∃ St,ItOk ⟨K,π'⟩ J S St∧St α H
inductive LI(K:PySem.W.Frag)(f:DI)(σ:St)(H:Hp)(R:It→Hp→Prop):Prop
 |mk (π:List Addr) (α:List Addr) (δ:Sl) (h:Hh) (Q':Src→Hh→Prop):HRel ⟨K,π⟩ α H h→RelS ⟨K,π⟩ α H δ σ→f δ h Q'→(∀ S h' α' H' J,Q' S h'→Ext α H α' H'→HRel ⟨K,π⟩ α' H' h'→ItA K π α' H' J S→S.ok h'→R J H')→LI K f σ H R
noncomputable def SI(X:Cx)(tg iter:Expr)(f:DI):Prop:=PI X tg iter (LI X.K f)
noncomputable def forL(S:Src)(t:DG)(b:DS)(E:DEnds):List D→Sl→Hh→Prop
 |[],δ,h=>S.ok h∧E.nx δ h
 |x :: r,δ,h=>S.ok h∧t x δ h fun δ2 h2=>b { E with nx:=forL S t b E r,ct:=forL S t b E r,bk:=E.nx } δ2 h2
noncomputable def dFor(s:DI)(t:DG)(b:DS):DS:=fun E δ h=>s δ h fun S h1=>forL S t b E S.items δ h1
theorem s_for{X:Cx}{tg iter:Expr}{body:List Stmt}{s:DI}{t:DG}{b:DS}{pos:Pos}(hp:PassesOwn (model X.prog X.w) X.A X.env X.xe)(hc:X.calm=true)(hi:SI X tg iter s)(hg:SG X tg t)(hb:SSs X body b)
  (hs:∀ x,foldedSetIterable iter X.env x=pure x:=by intro _;rfl):SS X (.For tg iter body [] pos) (dFor s t b):=PS.imp (ps_for hp hc hi hg hb hs) fun F σ H ⟨π,α,δ,h,E,R,S,q,k⟩=>by
 refine ⟨π,α,δ,h,_,R,S,q,fun Sr h1 α1 H1 J f1 e1 R1 ia ok1=>?_⟩
 obtain ⟨St,io,st1⟩:=ia π (fun p z=>.inl z)
 refine ⟨fun i m σ' H'=>m=Sr.items.length - i∧i ≤ Sr.items.length∧∃ α' δ' h',Ext α H α' H'∧HRel ⟨X.K,π⟩ α' H' h'∧RelS ⟨X.K,π⟩ α' H' δ' σ'∧St α' H'∧forL Sr t b E (Sr.items.drop i) δ' h',⟨_,rfl,Nat.zero_le _,α1,δ,h1,e1,R1,S.mono e1,st1,f1⟩,?_⟩
 rintro i m σ' H' ⟨rfl,hi,α',δ',h',e',R',S',st',q'⟩
 by_cases hlt:i < Sr.items.length
 ·rw [List.drop_eq_getElem_cons hlt] at q'
  obtain ⟨okh,q'⟩:=q'
  obtain ⟨go,yl⟩:=io.item α' H' h' i Sr.items[i] R' st' okh (List.getElem?_eq_getElem hlt)
  refine .inr ⟨go,fun σ2 H2=>∃ α2 δ2 h2,Ext α H α2 H2∧HRel ⟨X.K,π⟩ α2 H2 h2∧RelS ⟨X.K,π⟩ α2 H2 δ2 σ2∧St α2 H2∧forL Sr t b E (Sr.items.drop (i + 1)) δ2 h2,fun σ2 H2 z=>⟨_,by omega,rfl,hlt,z⟩,fun x H2 y2=>?_⟩
  obtain ⟨e2,R2,r2⟩:=yl x H2 y2
  refine ⟨π,α',δ',h',Sr.items[i],_,R2,S'.mono e2,r2,q',fun δ3 h3 α3 H3 σ3 f3 e3 R3 S3=>?_⟩
  have e4:=e'.trans (e2.trans e3)
  have k3:=k.mono e4
  have st3:=io.keep _ _ _ _ st' (e2.trans e3)
  exact ⟨π,α3,δ3,h3,_,R3,S3,f3,⟨fun δ5 h5 α5 H5 σ5 a b c d=>⟨α5,δ5,h5,e4.trans b,c,d,io.keep _ _ _ _ st3 b,a⟩,k3.rt,k3.nx,fun δ5 h5 α5 H5 σ5 a b c d=>⟨α5,δ5,h5,e4.trans b,c,d,io.keep _ _ _ _ st3 b,a⟩,k3.ex⟩⟩
 ·have ei:i=Sr.items.length:=by omega
  subst ei
  rw [List.drop_length] at q'
  exact .inl ⟨io.stop α' H' h' R' st' q'.1,k.nx δ' h' α' H' σ' q'.2 e' R' S'⟩
noncomputable def compSl(js:List (Option Nat))(δ:Sl):Sl:=js.map fun j=>match j with
 |some j=>(δ[j]?).getD none
 |none=>none
noncomputable def compL(S:Src)(t:DG)(tf:DT)(te:DE):List D→List D→Sl→Hh→(List D→Hh→Prop)→Prop
 |[],acc,_,h,Q=>S.ok h∧Q acc h
 |x :: r,acc,δ,h,Q=>S.ok h∧t x δ h fun δ2 h2=>tf δ2 h2 fun b h3=>if b=true then te δ2 h3 fun y h4=>compL S t tf te r (acc ++ [y]) δ2 h4 Q else compL S t tf te r acc δ2 h3 Q
noncomputable def dComp(js:List (Option Nat))(s:DI)(t:DG)(tf:DT)(te:DE):DN:=fun δ h Q=>s δ h fun S h1=>S.items.length ≤ 16777216∧compL S t tf te S.items [] (compSl js δ) h1 Q
theorem compS_rel{K:KP}{α:List Addr}{H:Hp}{δ:Sl}{σ:L2.St}(S:RelS K α H δ σ)(js:List (Option Nat)):RelS K α H (compSl js δ) (compSt js σ):=by
 refine ⟨by unfold compSl compSt;simp,fun i d e=>?_⟩
 unfold compSl at e
 rw [List.getElem?_map] at e
 unfold compSt
 rw [List.getElem?_map]
 cases q:js[i]? with
 |none=>rw [q] at e;cases e
 |some j =>
  rw [q] at e
  cases j with
  |none=>cases e
  |some j =>
   have e:(δ[j]?).getD none=some d:=Option.some.inj e
   cases w:δ[j]? with
   |none=>rw [w] at e;cases e
   |some z =>
    rw [w] at e
    have e:z=some d:=e
    subst e
    obtain ⟨v,h1,h2⟩:=S.get j d w
    exact ⟨v,by show some ((σ[j]?).getD none)=_;rw [h1];rfl,h2⟩
theorem comp_lift{K:PySem.W.Frag}{js:List (Option Nat)}{s:DI}{t:DG}{tf:DT}{te:DE}{σ:L2.St}{H:Hp}{Q:VK}(w:LN K (dComp js s t tf te) σ H Q) :
  tComp js (LI K s) (fun _ _ _=>LG K t) (fun _ _ _=>LT K tf) (fun _ _ _=>LE K te) σ H Q:=by
 obtain ⟨π,α,δ,h,Q',R,S,q,k⟩:=w
 refine ⟨π,α,δ,h,_,R,S,q,fun Sr h1 α1 H1 J f1 e1 R1 ia ok1=>fun Da hD s0 H0 fp=>?_⟩
 obtain ⟨hlen,f1⟩:=f1
 have sub:∀ p ∈ Da :: π,p ∈ π∨H1 p=none:=fun p hp=>by
  rcases List.mem_cons.mp hp with rfl | z
  ·exact .inr hD
  ·exact .inl z
 obtain ⟨St,io,st1⟩:=ia (Da :: π) sub
 have eN:Ext α1 H1 α1 (upd H1 Da (.lst [])):=Ext.new hD
 have hin:Da ∈ (KP.mk K (Da :: π)).π:=List.mem_cons_self
 refine ⟨fun i m σ' H'=>m=Sr.items.length - i∧i ≤ Sr.items.length∧∃ α' δ' h' acc us,Ext α1 H1 α' H'∧HRel ⟨K,Da :: π⟩ α' H' h'∧RelS ⟨K,Da :: π⟩ α' H' δ' σ'∧St α' H'∧H' Da=some (.lst us)∧RelDs ⟨K,Da :: π⟩ α' H' acc us∧acc.length ≤ i ∧
   compL Sr t tf te (Sr.items.drop i) acc δ' h' Q',⟨_,rfl,Nat.zero_le _,α1,compSl js δ,h1,[],[],eN,R1.under hD,(compS_rel ((S.mono e1).more sub) js).mono eN,io.keep _ _ _ _ st1 eN,upd_same,.nil,Nat.le_refl _,f1⟩,?_⟩
 rintro i m σ' H' ⟨rfl,hi,α',δ',h',acc,us,e',R',S',st',hus,ra,la,q'⟩
 have nD:Da ∉ α':=(R'.dis Da hin).1
 by_cases hlt:i < Sr.items.length
 ·rw [List.drop_eq_getElem_cons hlt] at q'
  obtain ⟨okh,q'⟩:=q'
  obtain ⟨go,yl⟩:=io.item α' H' h' i Sr.items[i] R' st' okh (List.getElem?_eq_getElem hlt)
  refine .inr ⟨go,fun x H2 y2=>?_⟩
  obtain ⟨e2,R2,r2⟩:=yl x H2 y2
  refine ⟨Da :: π,α',δ',h',Sr.items[i],_,R2,S'.mono e2,r2,q',fun δ3 h3 α3 H3 σ3 f3 e3 R3 S3=>?_⟩
  refine ⟨Da :: π,α3,δ3,h3,_,R3,S3,f3,fun b h4 α4 H4 f4 e4 R4=>?_⟩
  have e24:=e2.trans (e3.trans e4)
  cases b with
  |false =>
   refine iteF ⟨_,by omega,rfl,hlt,α4,δ3,h4,acc,us,e'.trans e24,R4,S3.mono e4,io.keep _ _ _ _ st' e24,e24.keep _ _ hus nD,ra.mono e24,by omega,by simpa using f4⟩
  |true =>
   have f4:te δ3 h4 fun y h5=>compL Sr t tf te (Sr.items.drop (i + 1)) (acc ++ [y]) δ3 h5 Q':=by simpa using f4
   refine iteT ⟨Da :: π,α4,δ3,h4,_,R4,S3.mono e4,f4,fun y h5 α5 H5 v5 f5 e5 R5 q5=>?_⟩
   have e25:=e24.trans e5
   have h5D:H5 Da=some (.lst us):=e25.keep _ _ hus nD
   have pv:Priv Da H5 (upd H5 Da (.lst (us ++ [v5]))):=⟨fun b hb=>upd_ne hb⟩
   have ra5:=ra.mono e25
   refine ⟨us,h5D,by rw [← ra5.length,sizeLine_eq];omega,_,by omega,rfl,hlt,α5,δ3,h5,acc ++ [y],us ++ [v5],(e'.trans e25).grow hD,R5.priv pv hin (by rw [upd_same];exact ⟨(fun z=>by cases z),fun _ z=>by cases z⟩),(S3.mono (e4.trans e5)).priv pv hin,io.priv _ _ _ _ (io.keep _ _ _ _ st' e25) pv hin,upd_same,(ra5.snoc q5).priv pv hin,by rw [List.length_append,List.length_singleton];omega,f5⟩
 ·have ei:i=Sr.items.length:=by omega
  subst ei
  rw [List.drop_length] at q'
  exact .inl ⟨io.stop α' H' h' R' st' q'.1,k _ h' α' H' us Da q'.2 (e1.trans e') R' ra hus (e1.dom Da hD) (R1.outP hD)⟩
noncomputable def dNoIf:DT:=fun _ h Q=>Q true h
section
variable {X:Cx} {pins:List (Addr×Obj)} {σ:L2.St} {H:Hp} {s:Shared} {N':List Str} {js:List (Option Nat)} {scope:Scope}
noncomputable def SF(X:Cx)(es:List Expr)(t:DT):Prop:=PF X es (LT X.K t)
theorem PF.imp{es:List Expr}{t t':TT}(h:PF X es t)(k:∀ σ H Q,t' σ H Q→t σ H Q):PF X es t':=fun pins s σ H Q I q=>h pins s σ H Q I (k σ H Q q)
theorem sf_nil:SF X [] dNoIf:=PF.imp pf_nil fun σ H Q ⟨π,α,δ,h,Q',R,S,f,k⟩=>k true h α H f (Ext.refl ..) R
theorem sf_one{c:Expr}{t:DT}(h:ST X c t):SF X [c] t:=pf_one h
variable {tg iter elt:Expr} {ifs:List Expr} {pos:Pos} {sr:DI} {g:DG} {tf:DT} {te:DE}
theorem sn_comp(hc:X.calm=true)(C:CompOk X N' js scope)(hi:SI X tg iter sr)
  (body:∀ (s0:Shared) (H0:Hp) (fp:List Addr),SG (cxComp X N' scope s0 H0 fp) tg g∧SF (cxComp X N' scope s0 H0 fp) ifs tf∧SE (cxComp X N' scope s0 H0 fp) elt te)
  (hs:∀ x,foldedSetIterable iter X.env x=pure x:=by intro _;rfl):SN X (.ListComp elt [⟨tg,iter,ifs,0⟩] scope pos) (dComp js sr g tf te) :=
 PE.imp (pe_comp hc C hi (g:=fun _ _ _=>LG X.K g) (tf:=fun _ _ _=>LT X.K tf) (te:=fun _ _ _=>LE X.K te) body hs) fun _ _ _ w=>comp_lift w
end
end DL
namespace DL
open PySem PySem.Spec L2
mutual
inductive IsP(h:Hh):D→PyData→Prop
 |non:IsP h .non .none
 |bl (b:Bool):IsP h (.bl b) (.bool b)
 |int (i:Int):IsP h (.int i) (.int i)
 |str (x:Str):IsP h (.str x) (.str x)
 |tup {ds:List D} {ps:List PyData}:IsPs h ds ps→IsP h (.tup ds) (.tuple ps)
 |lst {ds:List D} {ps:List PyData}:IsPs h ds ps→IsP h (.lst ds) (.list ps)
 |ref {i:Nat} {ds:List D} {ps:List PyData}:h[i]?=some (.lst ds)→IsPs h ds ps→IsP h (.ref i) (.list ps)
inductive IsPs(h:Hh):List D→List PyData→Prop
 |nil:IsPs h [] []
 |cons {d:D} {p:PyData} {ds:List D} {ps:List PyData}:IsP h d p→IsPs h ds ps→IsPs h (d :: ds) (p :: ps)
end
section
variable {X:Cx} {pins:List (Addr×Obj)} {σ:L2.St} {H:Hp} {s:Shared} {π α:List Addr} {h:Hh}
theorem IsP.reads(I:Inv X pins σ H s)(R:HRel ⟨X.K,π⟩ α H h){d:D}{p:PyData}(e:IsP h d p):∀ {v:V} {u:Value},RelD ⟨X.K,π⟩ α H d v→RelV v u→∃ as,Reads s.heap u p as:=by
 refine IsP.rec (motive_1:=fun d p _=>∀ {v:V} {u:Value},RelD ⟨X.K,π⟩ α H d v→RelV v u→∃ as,Reads s.heap u p as) (motive_2:=fun ds ps _=>∀ {vs:List V} {us:List Value},RelDs ⟨X.K,π⟩ α H ds vs→Vals vs us→∃ as,ReadsAll s.heap us ps as) ?_ ?_ ?_ ?_ ?_ ?_ ?_ ?_ ?_ e
 ·intro v u q r;cases q;cases r;exact ⟨_,.none⟩
 ·intro b v u q r;cases q;cases r;exact ⟨_,.bool b⟩
 ·intro i v u q r;cases q;obtain ⟨t,rfl⟩:=r;exact ⟨_,.int i t⟩
 ·intro x v u q r;cases q;obtain ⟨t,rfl⟩:=r;exact ⟨_,.str x t⟩
 ·intro ds ps _ ih v u q0 r
  cases q0 with
  |tup t rr =>
   cases r
   obtain ⟨its,rv,⟨o,q,c,n,d⟩,_⟩:=I.tuple t.sq
   obtain ⟨as,ra⟩:=ih rr rv
   exact ⟨_,.tuple q c d (by simpa using ra)⟩
 ·intro ds ps _ ih v u q0 r
  cases q0 with
  |lst t rr =>
   cases r
   obtain ⟨its,rv,⟨o,n,q,c,_,d⟩,_⟩:=I.list t.sq
   obtain ⟨as,ra⟩:=ih rr rv
   exact ⟨_,.list q c d (by simpa using ra)⟩
 ·intro i ds ps hh _ ih v u q0 r
  cases q0 with
  |ref hp =>
   cases r
   obtain ⟨a,us,e1,e2,e3⟩:=R.lst hh
   rw [hp] at e1;cases e1
   obtain ⟨its,rv,⟨o,n,q,c,_,d⟩,_⟩:=I.list (SqL.of (K:=X.K) e2)
   obtain ⟨as,ra⟩:=ih e3 rv
   exact ⟨_,.list q c d (by simpa using ra)⟩
 ·intro vs us q r;cases q;cases r;exact ⟨_,.nil⟩
 ·intro d ds p ps _ _ ih iht vs us q r
  cases q with
  |cons rr rs =>
   cases r with
   |cons r1 r2 =>
    obtain ⟨as,ra⟩:=ih rr r1
    obtain ⟨bs,rb⟩:=iht rs r2
    exact ⟨_,.cons ra rb⟩
end
noncomputable def eqS:D→D→Option Bool
 |.int i,.int j=>some (i == j)
 |.str a,.str b=>if PyData.strOk a && PyData.strOk b then some (a == b) else none
 |.bl a,.bl b=>some (a == b)
 |.non,.non=>some true
 |.int _,.str b=>if PyData.strOk b then some false else none
 |.str a,.int _=>if PyData.strOk a then some false else none
 |.non,.int _=>some false
 |.int _,.non=>some false
 |.non,.tup _=>none
 |_,_=>none
noncomputable def pEq(neg:Bool):P2:=fun x y h Q=>match eqS x y with
 |some b=>Q (.bl (if neg then !b else b)) h
 |none=>∃ a b,IsP h x a∧IsP h y b∧SeqAt.shaped a=true∧SeqAt.shaped b=true∧Q (.bl (if neg then !PyData.eqv a b else PyData.eqv a b)) h
theorem eqS_ok{h:Hh}{x y:D}{b:Bool}(e:eqS x y=some b):∃ p q,IsP h x p∧IsP h y q∧SeqAt.shaped p=true∧SeqAt.shaped q=true∧PyData.eqv p q=b:=by
 have si:∀ i:Int,SeqAt.shaped (.int i)=true:=fun i=>by simp [SeqAt.shaped,PyData.canLay0,PyData.depth]
 have sn:SeqAt.shaped .none=true:=by simp [SeqAt.shaped,PyData.canLay0,PyData.depth]
 have sb:∀ b:Bool,SeqAt.shaped (.bool b)=true:=fun i=>by simp [SeqAt.shaped,PyData.canLay0,PyData.depth]
 have ss:∀ x:Str,PyData.strOk x=true→SeqAt.shaped (.str x)=true:=fun x hx=>by simp [SeqAt.shaped,PyData.canLay0,PyData.depth,hx]
 cases x with
 |int i =>
  cases y with
  |int j=>cases e;exact ⟨_,_,.int _,.int _,si _,si _,rfl⟩
  |str t =>
   have e:(if PyData.strOk t=true then some false else none)=some b:=e
   by_cases q:PyData.strOk t=true
   ·rw [if_pos q] at e;cases e;exact ⟨_,_,.int _,.str _,si _,ss _ q,rfl⟩
   ·rw [if_neg q] at e;cases e
  |non=>cases e;exact ⟨_,_,.int _,.non,si _,sn,rfl⟩
  |_=>cases e
 |str a =>
  cases y with
  |int j =>
   have e:(if PyData.strOk a=true then some false else none)=some b:=e
   by_cases q:PyData.strOk a=true
   ·rw [if_pos q] at e;cases e;exact ⟨_,_,.str _,.int _,ss _ q,si _,rfl⟩
   ·rw [if_neg q] at e;cases e
  |str t =>
   have e:(if (PyData.strOk a && PyData.strOk t)=true then some (a == t) else none)=some b:=e
   by_cases q:(PyData.strOk a && PyData.strOk t)=true
   ·rw [if_pos q] at e
    rw [Bool.and_eq_true] at q
    cases e;exact ⟨_,_,.str _,.str _,ss _ q.1,ss _ q.2,rfl⟩
   ·rw [if_neg q] at e;cases e
  |_=>cases e
 |bl a =>
  cases y with
  |bl c=>cases e;exact ⟨_,_,.bl _,.bl _,sb _,sb _,rfl⟩
  |_=>cases e
 |non =>
  cases y with
  |non=>cases e;exact ⟨_,_,.non,.non,sn,sn,rfl⟩
  |int j=>cases e;exact ⟨_,_,.non,.int _,sn,si _,rfl⟩
  |_=>cases e
 |_=>cases e
section
variable {X:Cx}
theorem pEq_all{neg:Bool}{x y:D}{h:Hh}{Q:DK}(f:pEq neg x y h Q):∃ a b,IsP h x a∧IsP h y b∧SeqAt.shaped a=true∧SeqAt.shaped b=true∧Q (.bl (if neg then !PyData.eqv a b else PyData.eqv a b)) h:=by
 unfold pEq at f
 cases q:eqS x y with
 |none=>rw [q] at f;exact f
 |some b =>
  rw [q] at f
  obtain ⟨p,q,a,b',c,d,e⟩:=eqS_ok (h:=h) q
  exact ⟨p,q,a,b',c,d,by rw [e];exact f⟩
theorem ok_eq(hu:X.A.units + 64 < cLine):OpR X (compareOp .Eq) (r2 X.K (pEq false)):=by
 intro pins s σ H x y v u Q I rx ry ⟨π,α,h,d,e,Q',R,r1,r2,f,k⟩
 obtain ⟨a,b,ia,ib,sa,sb,q⟩:=pEq_all f
 obtain ⟨as,ra⟩:=ia.reads I R r1 rx
 obtain ⟨bs,rb⟩:=ib.reads I R r2 ry
 exact SeqAt.compareEq_shaped ra rb sa sb hu ⟨.bl (PyData.eqv a b),H,I,rfl,k _ h α H _ q (Ext.refl ..) R (.bl _)⟩
theorem ok_ne(hu:X.A.units + 64 < cLine):OpR X (compareOp .NotEq) (r2 X.K (pEq true)):=by
 intro pins s σ H x y v u Q I rx ry ⟨π,α,h,d,e,Q',R,r1,r2,f,k⟩
 obtain ⟨a,b,ia,ib,sa,sb,q⟩:=pEq_all f
 obtain ⟨as,ra⟩:=ia.reads I R r1 rx
 obtain ⟨bs,rb⟩:=ib.reads I R r2 ry
 exact SeqAt.compareNe_shaped ra rb sa sb hu ⟨.bl (!PyData.eqv a b),H,I,rfl,k _ h α H _ q (Ext.refl ..) R (.bl _)⟩
end
structure SeqIt(K:KP)(Sq:Hp→List V→Prop)(xs:List D)(w:List (Nat×O))(St:List Addr→Hp→Prop):Prop where
 keep:∀ α H α' H',St α H→Ext α H α' H'→St α' H'
 priv:∀ α H H' D,St α H→Priv D H H'→D ∈ K.π→St α H'
 get:∀ α H h,HRel K α H h→St α H→(∀ p ∈ w,h[p.1]?=some p.2)→∃ us,Sq H us∧RelDs K α H xs us
noncomputable def SeqA(K:PySem.W.Frag)(π α:List Addr)(H:Hp)(Sq:Hp→List V→Prop)(xs:List D)(w:List (Nat×O)):Prop:=∀ π',(∀ p ∈ π',p ∈ π∨H p=none)→∃ St,SeqIt ⟨K,π'⟩ Sq xs w St∧St α H
noncomputable def seqSrc(h:Hh):D→Option Src
 |.tup xs=>some ⟨xs,[]⟩
 |.lst xs=>some ⟨xs,[]⟩
 |.scr xs=>some ⟨xs,[]⟩
 |.ref i=>match h[i]? with | some (.lst xs)=>some ⟨xs,[(i,.lst xs)]⟩ | _=>none
 |_=>none
theorem seqSrc_ok{K:PySem.W.Frag}{π α:List Addr}{H:Hp}{h:Hh}(R:HRel ⟨K,π⟩ α H h){d:D}{v:V}{S:Src}(r:RelD ⟨K,π⟩ α H d v)(e:seqSrc h d=some S) :
  ∃ a,v = .ref a∧S.ok h∧(((∃ us,SqL K H a us)∧SeqA K π α H (fun H us=>SqL K H a us) S.items S.w)∨((∃ us,SqT K H a us)∧SeqA K π α H (fun H us=>SqT K H a us) S.items S.w)):=by
 cases r with
 |@tup a us ds t rs =>
  cases e
  exact ⟨a,rfl,Src.ok_nil,.inr ⟨⟨us,t.sq⟩,fun π' s=>⟨fun α H=>VT ⟨K,π'⟩ α H a us∧RelDs ⟨K,π'⟩ α H ds us,⟨fun α H α' H' st e=>⟨st.1.mono e,st.2.mono e⟩,fun α H H' D st e hD=>⟨st.1.priv e hD,st.2.priv e hD⟩,fun α H h R st _=>⟨us,st.1.sq,st.2⟩⟩,t.more s,rs.more s⟩⟩⟩
 |@lst a us ds t rs =>
  cases e
  exact ⟨a,rfl,Src.ok_nil,.inl ⟨⟨us,t.sq⟩,fun π' s=>⟨fun α H=>VL ⟨K,π'⟩ α H a us∧RelDs ⟨K,π'⟩ α H ds us,⟨fun α H α' H' st e=>⟨st.1.mono e,st.2.mono e⟩,fun α H H' D st e hD=>⟨st.1.priv e hD,st.2.priv e hD⟩,fun α H h R st _=>⟨us,st.1.sq,st.2⟩⟩,t.more s,rs.more s⟩⟩⟩
 |@scr a us ds t rs =>
  cases e
  exact ⟨a,rfl,Src.ok_nil,.inl ⟨⟨us,t.sq⟩,fun π' s=>⟨fun α H=>VS ⟨K,π'⟩ α H a us∧RelDs ⟨K,π'⟩ α H ds us,⟨fun α H α' H' st e=>⟨st.1.mono e,st.2.mono e⟩,fun α H H' D st e hD=>⟨st.1.priv e hD,st.2.priv e hD⟩,fun α H h R st _=>⟨us,st.1.sq,st.2⟩⟩,t.more s,rs.more s⟩⟩⟩
 |@ref i a hp =>
  have e:(match h[i]? with | some (.lst xs)=>some (Src.mk xs [(i,.lst xs)]) | _=>none)=some S:=e
  cases q:h[i]? with
  |none=>rw [q] at e;cases e
  |some o =>
   rw [q] at e
   cases o with
   |lst xs =>
    cases e
    obtain ⟨p,us,e1,e2,e3⟩:=R.lst q
    rw [hp] at e1;cases e1
    refine ⟨a,rfl,fun z hz=>by rw [List.mem_singleton.mp hz];exact q,.inl ⟨⟨us,SqL.of e2⟩,fun π' s=>⟨fun α H=>α[i]?=some a,⟨fun α H α' H' st e=>e.get st,fun α H H' D st e hD=>st,fun α H h R st w=>?_⟩,hp⟩⟩⟩
    obtain ⟨p,us,e1,e2,e3⟩:=R.lst (w (i,.lst xs) (List.mem_singleton.mpr rfl))
    rw [st] at e1;cases e1
    exact ⟨us,SqL.of e2,e3⟩
   |_=>cases e
 |_=>cases e
theorem it_list{K:PySem.W.Frag}{π α:List Addr}{H:Hp}{a:Addr}{S:Src}(s:SeqA K π α H (fun H us=>SqL K H a us) S.items S.w):ItA K π α H (Itl K a) S:=fun π' sub=>by
 obtain ⟨St,si,st⟩:=s π' sub
 refine ⟨St,⟨si.keep,si.priv,fun α H h i d R st ok hi=>?_,fun α H h R st ok=>?_⟩,st⟩
 ·obtain ⟨us,hq,rs⟩:=si.get α H h R st ok
  obtain ⟨u,hu,ru⟩:=rs.get hi
  refine ⟨⟨us,u,hq,hu⟩,fun x H' ⟨e1,e2⟩=>?_⟩
  subst e1
  have:=(e2 us hq).symm.trans hu
  cases this
  exact ⟨Ext.refl ..,R,ru⟩
 ·obtain ⟨us,hq,rs⟩:=si.get α H h R st ok
  exact ⟨us,hq,by rw [← rs.length];exact Nat.le_refl _⟩
theorem it_tup{K:PySem.W.Frag}{π α:List Addr}{H:Hp}{a:Addr}{S:Src}(s:SeqA K π α H (fun H us=>SqT K H a us) S.items S.w):ItA K π α H (Itt K a) S:=fun π' sub=>by
 obtain ⟨St,si,st⟩:=s π' sub
 refine ⟨St,⟨si.keep,si.priv,fun α H h i d R st ok hi=>?_,fun α H h R st ok=>?_⟩,st⟩
 ·obtain ⟨us,hq,rs⟩:=si.get α H h R st ok
  obtain ⟨u,hu,ru⟩:=rs.get hi
  refine ⟨⟨us,u,hq,hu⟩,fun x H' ⟨e1,e2⟩=>?_⟩
  subst e1
  have:=(e2 us hq).symm.trans hu
  cases this
  exact ⟨Ext.refl ..,R,ru⟩
 ·obtain ⟨us,hq,rs⟩:=si.get α H h R st ok
  exact ⟨us,hq,by rw [← rs.length];exact Nat.le_refl _⟩
noncomputable def enumD:Int→List D→List D
 |_,[]=>[]
 |n,x :: r=>.tup [.int n,x] :: enumD (n + 1) r
theorem enumD_get:∀ (n:Int) (xs:List D) (i:Nat),(enumD n xs)[i]?=(xs[i]?).map fun x=>.tup [.int (n + i),x]
 |n,[],i=>by simp [enumD]
 |n,x :: r,0=>by simp [enumD]
 |n,x :: r,i + 1=>by
  have:=enumD_get (n + 1) r i
  simp only [enumD,List.getElem?_cons_succ,this]
  congr 1;funext y;congr 3;push_cast;omega
theorem enumD_length:∀ (n:Int) (xs:List D),(enumD n xs).length=xs.length
 |_,[]=>rfl
 |n,x :: r=>by simp [enumD,enumD_length (n + 1) r]
theorem it_enum{K:PySem.W.Frag}{π α:List Addr}{H:Hp}{Sq:Hp→List V→Prop}{S:Src}(s:SeqA K π α H Sq S.items S.w):ItA K π α H (Ite Sq) ⟨enumD 0 S.items,S.w⟩:=fun π' sub=>by
 obtain ⟨St,si,st⟩:=s π' sub
 refine ⟨St,⟨si.keep,si.priv,fun α H h i d R st ok hi=>?_,fun α H h R st ok=>?_⟩,st⟩
 ·rw [enumD_get] at hi
  cases q:S.items[i]? with
  |none=>rw [q] at hi;cases hi
  |some y =>
   rw [q] at hi
   cases hi
   obtain ⟨us,hq,rs⟩:=si.get α H h R st ok
   obtain ⟨u,hu,ru⟩:=rs.get q
   refine ⟨⟨us,u,hq,hu⟩,fun x H' ⟨T,v,e0,hT,e1,e2⟩=>?_⟩
   subst e0 e1
   have:=(e2 us hq).symm.trans hu
   obtain rfl:=Option.some.inj this
   have e3:Ext α H α (upd H T (.tup [.int (i:Nat),v])):=Ext.new hT
   refine ⟨e3,R.new hT,.tup ⟨R.out hT,R.outP hT,upd_same⟩ (.cons ?_ (.cons (ru.mono e3) .nil))⟩
   rw [Int.zero_add];exact .int _
 ·obtain ⟨us,hq,rs⟩:=si.get α H h R st ok
  exact ⟨us,hq,by rw [enumD_length,rs.length]⟩
noncomputable def rangeD(lo:Int):Nat→List D
 |0=>[]
 |n + 1=>.int lo :: rangeD (lo + 1) n
theorem rangeD_get:∀ (lo:Int) (n i:Nat),(rangeD lo n)[i]?=if i < n then some (.int (lo + i)) else none
 |lo,0,i=>by simp [rangeD]
 |lo,n + 1,0=>by simp [rangeD]
 |lo,n + 1,i + 1=>by
  have:=rangeD_get (lo + 1) n i
  simp only [rangeD,List.getElem?_cons_succ,this,Nat.add_lt_add_iff_right]
  have e:lo + 1 + (i:Int)=lo + ((i + 1:Nat):Int):=by push_cast;omega
  rw [e]
theorem rangeD_length:∀ (lo:Int) (n:Nat),(rangeD lo n).length=n
 |_,0=>rfl
 |lo,n + 1=>by simp [rangeD,rangeD_length (lo + 1) n]
theorem it_range{K:PySem.W.Frag}{π α:List Addr}{H:Hp}{lo:Int}{n:Nat}:ItA K π α H (Itr lo n) ⟨rangeD lo n,[]⟩:=fun π' sub=>by
 refine ⟨fun _ _=>True,⟨fun _ _ _ _ _ _=>trivial,fun _ _ _ _ _ _ _=>trivial,fun α H h i d R st ok hi=>?_,fun α H h R st ok=>?_⟩,trivial⟩
 ·have hi:(rangeD lo n)[i]?=some d:=hi
  rw [rangeD_get] at hi
  split at hi
  ·rename_i hlt
   cases hi
   exact ⟨hlt,fun x H' ⟨e1,e2⟩=>by subst e1 e2;exact ⟨Ext.refl ..,R,.int _⟩⟩
  ·cases hi
 ·show n ≤ (rangeD lo n).length
  rw [rangeD_length];exact Nat.le_refl _
noncomputable def dISeq(f:DE):DI:=fun δ h Q=>f δ h fun d h1=>match seqSrc h1 d with | some S=>Q S h1 | none=>False
noncomputable def dIEnum(f:DA):DI:=fun δ h Q=>f δ h fun ds h1=>match ds with | [d]=>(match seqSrc h1 d with | some S=>Q ⟨enumD 0 S.items,S.w⟩ h1 | none=>False) | _=>False
noncomputable def dIRange(f:DA):DI:=fun δ h Q=>f δ h fun ds h1=>match ds with
 |[.int j]=>(-(2 ^ 62) ≤ j∧j < 2 ^ 62)∧Q ⟨rangeD 0 j.toNat,[]⟩ h1
 |[.int i,.int j]=>(-(2 ^ 62) ≤ i∧i < 2 ^ 62∧-(2 ^ 62) ≤ j∧j < 2 ^ 62)∧Q ⟨rangeD i (j - i).toNat,[]⟩ h1
 |_=>False
section
variable {X:Cx} {tg:Expr}
theorem PI.imp{e:Expr}{t t':TI}(h:PI X tg e t)(k:∀ σ H Q,t' σ H Q→t σ H Q):PI X tg e t':=fun pins s σ H Q I q=>h pins s σ H Q I (k σ H Q q)
noncomputable def iSeq(K:PySem.W.Frag)(tl:TE):TI:=fun σ H R=>tl σ H fun x H1=>∃ a,x = .ref a∧(((∃ xs,SqL K H1 a xs)∧R (Itl K a) H1)∨((∃ xs,SqT K H1 a xs)∧R (Itt K a) H1))
theorem pi_seq{l:Expr}{tl:TE}(hl:PE X l tl):PI X tg l (iSeq X.K tl):=by
 intro pins s σ H R I h
 refine thn (hl pins s σ H _ I h) fun v s1 zz0=>?_
 obtain ⟨x,H1,I1,r1,q1⟩:=zz0
 obtain ⟨a,e,⟨⟨xs,hq⟩,q⟩ | ⟨⟨xs,hq⟩,q⟩⟩:=q1
 ·subst e
  cases r1
  obtain ⟨its,rv,p,hz⟩:=I1.list hq
  refine wpAny_pyIter_list p.isList ?_
  refine ⟨s1.heap.objs.size,[s1.heap.objs.size],_,_,H1,rfl,I1.kept (t':=s1.toks) fun b o e=>Heap.get?_push_of_some _ e,turn_list a _,⟨_,Heap.get?_push_size _ rfl,rfl,rfl⟩,fun b hb=>?_,q⟩
  have e:b=s1.heap.objs.size:=by simpa using hb
  subst e
  exact I1.fpOk (Nat.le_refl _) (I1.hok.fresh (Nat.le_refl _))
 ·subst e
  cases r1
  obtain ⟨its,rv,p,hz⟩:=I1.tuple hq
  refine wpAny_pyIter_tuple (show s1.heap.IsTuple a its.toArray from p) ?_
  refine ⟨s1.heap.objs.size,[s1.heap.objs.size],_,_,H1,rfl,I1.kept (t':=s1.toks) fun b o e=>Heap.get?_push_of_some _ e,turn_tuple a _,⟨_,Heap.get?_push_size _ rfl,rfl,rfl⟩,fun b hb=>?_,q⟩
  have e:b=s1.heap.objs.size:=by simpa using hb
  subst e
  exact I1.fpOk (Nat.le_refl _) (I1.hok.fresh (Nat.le_refl _))
theorem si_seq{l:Expr}{f:DE}(hl:SE X l f):SI X tg l (dISeq f):=PI.imp (pi_seq hl) fun σ H Q zz0=>by
 obtain ⟨π,α,δ,h,Q',R,S,f,k⟩:=zz0
 refine ⟨π,α,δ,h,_,R,S,f,fun d h1 α1 H1 v1 f1 e1 R1 q1=>?_⟩
 cases q:seqSrc h1 d with
 |none=>rw [q] at f1;exact f1.elim
 |some Sr =>
  rw [q] at f1
  obtain ⟨a,rfl,ok,⟨hu,sa⟩ | ⟨hu,sa⟩⟩:=seqSrc_ok R1 q1 q
  ·exact ⟨a,rfl,.inl ⟨hu,k Sr h1 α1 H1 _ f1 e1 R1 (it_list sa) ok⟩⟩
  ·exact ⟨a,rfl,.inr ⟨hu,k Sr h1 α1 H1 _ f1 e1 R1 (it_tup sa) ok⟩⟩
noncomputable def iEnumS(K:PySem.W.Frag)(ta:TA):TI:=fun σ H R=>ta σ H fun vs H1=>∃ a,vs=[.ref a]∧(((∃ xs,SqL K H1 a xs)∧R (Ite fun H xs=>SqL K H a xs) H1)∨((∃ xs,SqT K H1 a xs)∧R (Ite fun H xs=>SqT K H a xs) H1))
theorem pi_enumS{a:Expr}{ta:TA}{p pos:Pos}(hg:Gl X "enumerate")(hm:X.mg "enumerate" = none)(ha:PA X [a] ta)(htg:∃ es x1 pos,tg = .Tuple es x1 pos:=by exact ⟨_,_,_,rfl⟩)(hs:starEach [a] X.env=[(false,eval a X.env)]:=by rfl):PI X tg (.Call (.Name "enumerate" p) [a] [] pos) (iEnumS X.K ta):=by
 intro pins s σ H R I h
 refine PyProof.Rows.Call_ (ld_blt I hg hm PyProof.Rows.boot_enumerate (PyProof.Rows.callWith_type1 (thn (ha pos pins s σ H _ I h) fun us s1 ⟨vs,H1,I1,r1,q1⟩=>?_) hs rfl))
 obtain ⟨a,e,⟨⟨xs,hq⟩,q⟩ | ⟨⟨xs,hq⟩,q⟩⟩:=q1
 ·subst e
  obtain ⟨u,rfl,ru⟩:=vals1 r1
  cases ru
  obtain ⟨its,rv,p,hz⟩:=I1.list hq
  exact call_enumerate_list p.isList fun h' he hit _ hk=>enum_fin htg I1 (src_list a _) he hit hk q
 ·subst e
  obtain ⟨u,rfl,ru⟩:=vals1 r1
  cases ru
  obtain ⟨its,rv,p,hz⟩:=I1.tuple hq
  exact call_enumerate_tuple (show s1.heap.IsTuple a its.toArray from p) fun h' he hit _ hk=>enum_fin htg I1 (src_tup a _) he hit hk q
theorem si_enum{a:Expr}{n:Nat}{fs:DA}{p pos:Pos}(hg:Gl X "enumerate")(hm:X.mg "enumerate" = none)(ha:SA X [a] n fs)(htg:∃ es x1 pos,tg = .Tuple es x1 pos:=by exact ⟨_,_,_,rfl⟩)(hs:starEach [a] X.env=[(false,eval a X.env)]:=by rfl):SI X tg (.Call (.Name "enumerate" p) [a] [] pos) (dIEnum fs):=PI.imp (pi_enumS hg hm ha htg hs) fun σ H Q zz0=>by
 obtain ⟨π,α,δ,h,Q',R,S,f,k⟩:=zz0
 refine ⟨π,α,δ,h,_,R,S,f,fun ds h1 α1 H1 vs f1 e1 R1 q1 l1=>?_⟩
 split at f1
 ·rename_i d
  obtain ⟨v,rfl,q3⟩:=q1.inv1
  cases q:seqSrc h1 d with
  |none=>rw [q] at f1;exact f1.elim
  |some Sr =>
   rw [q] at f1
   obtain ⟨a,rfl,ok,⟨hu,sa⟩ | ⟨hu,sa⟩⟩:=seqSrc_ok R1 q3 q
   ·exact ⟨a,rfl,.inl ⟨hu,k ⟨enumD 0 Sr.items,Sr.w⟩ h1 α1 H1 _ f1 e1 R1 (it_enum sa) ok⟩⟩
   ·exact ⟨a,rfl,.inr ⟨hu,k ⟨enumD 0 Sr.items,Sr.w⟩ h1 α1 H1 _ f1 e1 R1 (it_enum sa) ok⟩⟩
 ·exact f1.elim
theorem si_range1{a:Expr}{n:Nat}{fs:DA}{p pos:Pos}(hg:Gl X "range")(hm:X.mg "range" = none)(ha:SA X [a] n fs)(hs:starEach [a] X.env=[(false,eval a X.env)]:=by rfl)(hn:n=1:=by rfl):SI X tg (.Call (.Name "range" p) [a] [] pos) (dIRange fs):=PI.imp (pi_range1 hg hm ha hs) fun σ H Q zz0=>by
 obtain ⟨π,α,δ,h,Q',R,S,f,k⟩:=zz0
 refine ⟨π,α,δ,h,_,R,S,f,fun ds h1 α1 H1 vs f1 e1 R1 q1 l1=>?_⟩
 split at f1
 ·obtain ⟨v,rfl,q3⟩:=q1.inv1
  cases q3 with
  |int=>exact ⟨_,rfl,f1.1.1,f1.1.2,k _ h1 α1 H1 _ f1.2 e1 R1 it_range Src.ok_nil⟩
 ·subst hn;cases l1
 ·exact f1.elim
end
end DL
namespace DL
open PySem PySem.Spec L2
noncomputable def dCB(p:PN)(f:DA):DE:=fun δ h Q=>f δ h fun ds h1=>p ds h1 Q
theorem cb_lift{K:PySem.W.Frag}{p:PN}{n:Nat}{f:DA}{σ:L2.St}{H:Hp}{Q:VK}(g:LE K (dCB p f) σ H Q):LA K n f σ H fun vs H1=>rN K p vs H1 Q:=by
 obtain ⟨π,α,δ,h,Q',R,S,f,k⟩:=g
 exact ⟨π,α,δ,h,_,R,S,f,fun ds h1 α1 H1 vs f1 e1 R1 q1 l1=>⟨π,α1,h1,ds,Q',R1,q1,f1,fun d h' α' H' v a b c d'=>k d h' α' H' v a (e1.trans b) c d'⟩⟩
section
variable {X:Cx} {x:Str} {p pos:Pos} {e:Expr} {es:List Expr} {n:Nat} {f:DA} {id T:String} {r:PN}
theorem se_callB(hc:CallR X (.builtin id) (rN X.K r))(hg:Gl X x)(hm:X.mg x=none)(hv:bootBuiltins x=some (.builtin id))(ha:SA X (e :: es) n f)(hn:x ≠ "__name__":=by decide)(hdb:(x == ("__debug__":Str))=false:=by decide)
  (he:starEach (e :: es) X.env=(false,eval e X.env) :: starEach es X.env:=by rfl) (hpl:(backTo pos (starEach es X.env)).any (·.1)=false:=by rfl):SE X (.Call (.Name x p) (e :: es) [] pos) (dCB r f) :=
 PE.imp (pe_callB hc hg hm hv ha hn hdb he hpl) fun _ _ _ g=>cb_lift g
theorem se_callTy(hc:CallR X (.type T) (rN X.K r))(hg:Gl X x)(hm:X.mg x=none)(hv:bootBuiltins x=some (.type T))(ha:SA X (e :: es) n f)(hn:x ≠ "__name__":=by decide)(hdb:(x == ("__debug__":Str))=false:=by decide)
  (he:starEach (e :: es) X.env=(false,eval e X.env) :: starEach es X.env:=by rfl) (hpl:(backTo pos (starEach es X.env)).any (·.1)=false:=by rfl):SE X (.Call (.Name x p) (e :: es) [] pos) (dCB r f) :=
 PE.imp (pe_callTy hc hg hm hv ha hn hdb he hpl) fun _ _ _ g=>cb_lift g
noncomputable def lenD(h:Hh):D→Option Nat
 |.str x=>if x.length ≤ 16777216 then some x.length else none
 |d=>(seqOf h d).map List.length
noncomputable def pLen:PN:=fun ds h Q=>match ds with | [d]=>(match lenD h d with | some n=>Q (.int n) h | none=>False) | _=>False
theorem ok_len:CallR X (.builtin "len") (rN X.K pLen):=CallR.imp call_len fun xs H Q zz0=>by
 obtain ⟨π,α,h,ds,Q',R,rs,f,k⟩:=zz0
 unfold pLen at f
 split at f
 ·rename_i d
  obtain ⟨v,rfl,rd⟩:=rs.inv1
  cases q:lenD h d with
  |none=>rw [q] at f;exact f.elim
  |some n =>
   rw [q] at f
   refine ⟨v,n,rfl,?_,k _ h α H _ f (Ext.refl ..) R (.int _)⟩
   by_cases z:∃ x,d = .str x
   ·obtain ⟨x,rfl⟩:=z
    cases rd
    have q:(if x.length ≤ 16777216 then some x.length else none)=some n:=q
    split at q
    ·rename_i hl
     cases q
     exact ⟨by rw [sizeLine_eq];exact hl,rfl⟩
    ·cases q
   ·have q':(seqOf h d).map List.length=some n:=by
     cases d with
     |str x=>exact absurd ⟨x,rfl⟩ z
     |_=>exact q
    cases w:seqOf h d with
    |none=>rw [w] at q';cases q'
    |some ys =>
     rw [w] at q'
     cases q'
     obtain ⟨p,us,rfl,b,c⟩:=seqOf_sq R rd w
     rcases b with b | b
     ·exact .inl ⟨us,b,c.length⟩
     ·exact .inr ⟨us,b,c.length⟩
 ·exact f.elim
noncomputable def pTuple:PN:=fun ds h Q=>match ds with | [d]=>(match seqOf h d with | some xs=>Q (.tup xs) h | none=>False) | _=>False
theorem ok_tuple:CallR X (.type "tuple") (rN X.K pTuple):=CallR.imp call_tuple_of fun xs H Q zz0=>by
 obtain ⟨π,α,h,ds,Q',R,rs,f,k⟩:=zz0
 unfold pTuple at f
 split at f
 ·rename_i d
  obtain ⟨v,rfl,rd⟩:=rs.inv1
  cases w:seqOf h d with
  |none=>rw [w] at f;exact f.elim
  |some ys =>
   rw [w] at f
   by_cases z:∃ x,d = .tup x
   ·obtain ⟨x,rfl⟩:=z
    cases w
    cases rd with
    |tup t r=>exact ⟨_,_,rfl,.inr ⟨t.sq,k _ h α H _ f (Ext.refl ..) R (.tup t r)⟩⟩
   ·have w':lsOf h d=some ys:=by
     cases d with
     |tup x=>exact absurd ⟨x,rfl⟩ z
     |lst x=>exact w
     |scr x=>exact w
     |ref x=>exact w
     |_=>cases w
    obtain ⟨p,us,rfl,b,c⟩:=lsOf_sq R rd w'
    refine ⟨p,us,rfl,.inl ⟨b,fun l hl=>?_⟩⟩
    have e2:Ext α H α (upd H l (.tup us)):=Ext.new hl
    exact k _ h α _ _ f e2 (R.new hl) (.tup ⟨R.out hl,R.outP hl,upd_same⟩ (c.mono e2))
 ·exact f.elim
noncomputable def dListOf(f:DA):DN:=fun δ h Q=>f δ h fun ds h1=>match ds with | [d]=>(match seqOf h1 d with | some xs=>Q xs h1 | none=>False) | _=>False
theorem sn_list(hg:Gl X "list")(hm:X.mg "list" = none)(ha:SA X (e :: es) n f)(he:starEach (e :: es) X.env=(false,eval e X.env) :: starEach es X.env:=by rfl)(hpl:(backTo pos (starEach es X.env)).any (·.1)=false:=by rfl) :
  SN X (.Call (.Name "list" p) (e :: es) [] pos) (dListOf f):=PE.imp (pe_callTy call_list_of hg hm PyProof.Rows.boot_list ha (by decide) (by decide) he hpl) fun σ H Q ⟨π,α,δ,h,Q',R,S,f,k⟩=>by
 refine ⟨π,α,δ,h,_,R,S,f,fun ds h1 α1 H1 vs f1 e1 R1 q1 l1=>?_⟩
 split at f1
 ·rename_i d
  obtain ⟨v,rfl,rd⟩:=q1.inv1
  cases w:seqOf h1 d with
  |none=>rw [w] at f1;exact f1.elim
  |some ys =>
   rw [w] at f1
   obtain ⟨p,us,rfl,b,c⟩:=seqOf_sq R1 rd w
   exact ⟨p,us,rfl,b,fun l hl=>LN.last (h:=h) k f1 e1 R1 c hl⟩
 ·exact f1.elim
noncomputable def pInt:PN:=fun ds h Q=>match ds with | [.int i]=>Q (.int i) h | [.bl b]=>Q (.int (if b then 1 else 0)) h | _=>False
theorem ok_int:CallR X (.type "int") (rN X.K pInt):=CallR.imp call_int1 fun xs H Q zz0=>by
 obtain ⟨π,α,h,ds,Q',R,rs,f,k⟩:=zz0
 unfold pInt at f
 split at f
 ·obtain ⟨v,rfl,rd⟩:=rs.inv1
  cases rd
  exact .inl ⟨_,rfl,k _ h α H _ f (Ext.refl ..) R (.int _)⟩
 ·obtain ⟨v,rfl,rd⟩:=rs.inv1
  cases rd
  exact .inr ⟨_,rfl,k _ h α H _ f (Ext.refl ..) R (.int _)⟩
 ·exact f.elim
noncomputable def pMin:PN:=fun ds h Q=>match ds with | [.int i,.int j]=>Q (.int (if j < i then j else i)) h | _=>False
noncomputable def pMax:PN:=fun ds h Q=>match ds with | [.int i,.int j]=>Q (.int (if j > i then j else i)) h | _=>False
theorem ok_min(hc:X.calm=true):CallR X (.builtin "min") (rN X.K pMin):=CallR.imp (call_min2 hc) fun xs H Q zz0=>by
 obtain ⟨π,α,h,ds,Q',R,rs,f,k⟩:=zz0
 unfold pMin at f
 split at f
 ·obtain ⟨v,w,rfl,rd,re⟩:=rs.inv2
  cases rd;cases re
  exact ⟨_,_,rfl,k _ h α H _ f (Ext.refl ..) R (.int _)⟩
 ·exact f.elim
theorem ok_max(hc:X.calm=true):CallR X (.builtin "max") (rN X.K pMax):=CallR.imp (call_max2 hc) fun xs H Q zz0=>by
 obtain ⟨π,α,h,ds,Q',R,rs,f,k⟩:=zz0
 unfold pMax at f
 split at f
 ·obtain ⟨v,w,rfl,rd,re⟩:=rs.inv2
  cases rd;cases re
  exact ⟨_,_,rfl,k _ h α H _ f (Ext.refl ..) R (.int _)⟩
 ·exact f.elim
noncomputable def pSum:PN:=fun ds h Q=>∃ (d:D) (ns:List Int),ds=[d]∧lsOf h d=some (ns.map D.int)∧Q (.int ns.sum) h
theorem ok_sum(hc:X.calm=true):CallR X (.builtin "sum") (rN X.K pSum):=CallR.imp (call_sum_ints hc) fun xs H Q zz0=>by
 obtain ⟨π,α,h,ds,Q',R,rs,f,k⟩:=zz0
 obtain ⟨d,ns,rfl,w,f⟩:=f
 obtain ⟨v,rfl,rd⟩:=rs.inv1
 obtain ⟨p,us,rfl,b,c⟩:=lsOf_sq R rd w
 cases c.ints_inv
 exact ⟨p,ns,rfl,b,k _ h α H _ f (Ext.refl ..) R (.int _)⟩
noncomputable def pAll:PN:=fun ds h Q=>∃ (d:D) (bs:List Bool),ds=[d]∧lsOf h d=some (bs.map D.bl)∧Q (.bl (bs.all fun b=>b)) h
theorem ok_all(hc:X.calm=true):CallR X (.builtin "all") (rN X.K pAll):=CallR.imp (call_all_bools hc) fun xs H Q zz0=>by
 obtain ⟨π,α,h,ds,Q',R,rs,f,k⟩:=zz0
 obtain ⟨d,ns,rfl,w,f⟩:=f
 obtain ⟨v,rfl,rd⟩:=rs.inv1
 obtain ⟨p,us,rfl,b,c⟩:=lsOf_sq R rd w
 cases c.bls_inv
 exact ⟨p,ns,rfl,b,k _ h α H _ f (Ext.refl ..) R (.bl _)⟩
end
section
variable {X:Cx} {o e:Expr} {fo fe:DE} {fs:DA} {n:Nat} {apos cpos:Pos}
noncomputable def dBits(fo:DE):DE:=fun δ h Q=>fo δ h fun d h1=>match d with | .int i=>Q (.int (Builtin.Int.intBits i:Nat)) h1 | _=>False
theorem se_bits(ho:SE X o fo)(hbase:attributeBase o "bit_length" X.env (eval o X.env)=eval o X.env:=by rfl)(hline:(apos.endLine == cpos.line)=true:=by rfl):SE X (.Call (.Attribute o "bit_length" apos) [] [] cpos) (dBits fo) :=
 PE.imp (pe_bm0 PySem.F.plainAttrs_int PySem.F.slot_int_bit_length PySem.F.type_int_bit_length mt_bits ho hbase hline) fun σ H Q zz0=>by
  obtain ⟨π,α,δ,h,Q',R,S,f,k⟩:=zz0
  refine ⟨π,α,δ,h,_,R,S,f,fun d h1 α1 H1 v1 f1 e1 R1 q1=>?_⟩
  cases q1 with
  |int i=>exact ⟨rfl,i,rfl,rfl,k _ h1 α1 H1 _ f1 e1 R1 (.int _)⟩
  |_=>exact f1.elim
noncomputable def dAppend(fo:DE)(fs:DA):DE:=fun δ h Q=>fo δ h fun d h1=>match d with
 |.ref i=>(match h1[i]? with
  |some (.lst _)=>fs δ h1 fun ds h2=>(match ds,h2[i]? with
   |[v],some (.lst ys)=>ys.length < 16777216∧Q .non (h2.set i (.lst (ys ++ [v])))
   |_,_=>False)
  |_=>False)
 |_=>False
theorem refL{K:PySem.W.Frag}{π α:List Addr}{H:Hp}{h:Hh}(R:HRel ⟨K,π⟩ α H h){i:Nat}{a:Addr}{xs:List D}(hp:α[i]?=some a)(w:h[i]?=some (.lst xs)):∃ us,H a=some (.lst us)∧RelDs ⟨K,π⟩ α H xs us:=by
 obtain ⟨p,us,e1,e2,e3⟩:=R.lst w
 rw [hp] at e1;cases e1
 exact ⟨us,e2,e3⟩
theorem se_append(ho:SE X o fo)(ha:SA X [e] n fs)(hbase:attributeBase o "append" X.env (eval o X.env)=eval o X.env:=by rfl)
  (hfew:((backTo cpos (starEach [e] X.env)).all (fun x=>!x.1) && (backToKw cpos (keywordEach [] X.env)).all (fun x=>x.1.isSome)
   && decide ([e].length + ([]:List Keyword).length + (if ([]:List Keyword).isEmpty then 0 else 1) < 30))=true:=by rfl)
  (hline:(apos.endLine == cpos.line)=true:=by rfl) (hs:starEach [e] X.env=(false,eval e X.env) :: starEach [] X.env:=by rfl) (hplain:(backTo cpos (starEach [] X.env)).any (·.1)=false:=by rfl) :
  SE X (.Call (.Attribute o "append" apos) [e] [] cpos) (dAppend fo fs) :=
 PE.imp (pe_bm PySem.F.plainAttrs_list PySem.F.slot_list_append PySem.F.type_list_append mt_append ho ha hbase hfew hline hs hplain) fun σ H Q zz0=>by
  obtain ⟨π,α,δ,h,Q',R,S,f,k⟩:=zz0
  refine ⟨π,α,δ,h,_,R,S,f,fun d h1 α1 H1 v1 f1 e1 R1 q1=>?_⟩
  cases q1 with
  |@ref i a hp =>
   dsimp only at f1
   cases w:h1[i]? with
   |none=>rw [w] at f1;exact f1.elim
   |some ob =>
    rw [w] at f1
    cases ob with
    |lst xs =>
     obtain ⟨us,e2,e3⟩:=refL R1 hp w
     refine ⟨.inl ⟨rfl,us,SqL.of e2⟩,π,α1,δ,h1,_,R1,S.mono e1,f1,fun ds h2 α2 H2 vs f2 e2 R2 q2 l2=>?_⟩
     split at f2
     ·rename_i v ys w2
      obtain ⟨u,rfl,q9⟩:=q2.inv1
      have hp2:=e2.get hp
      obtain ⟨us2,g2,g3⟩:=refL R2 hp2 w2
      have e4:Ext α2 H2 α2 (upd H2 a (.lst (us2 ++ [u]))):=Ext.write (List.mem_of_getElem? hp2)
      exact ⟨a,us2,u,rfl,rfl,g2,by rw [← g3.length,sizeLine_eq];exact f2.1,k _ _ α2 _ _ f2.2 (e1.trans (e2.trans e4)) (R2.write hp2 (.lst upd_same ((g3.snoc q9).mono e4))) .non⟩
     ·exact f2.elim
    |_=>exact f1.elim
  |_=>exact f1.elim
end
noncomputable abbrev DSp:=List D→Hh→DK→Prop
inductive spD(K:PySem.W.Frag)(n:Nat)(g:DSp)(vs:List V)(H:Hp)(Q:VK)(X9:XK):Prop
 |mk (π:List Addr) (α:List Addr) (h:Hh) (ds:List D) (Q':DK):HRel ⟨K,π⟩ α H h→RelDs ⟨K,π⟩ α H ds vs→ds.length=n→g ds h Q'→(∀ d h' α' H' v,Q' d h'→Ext α H α' H'→HRel ⟨K,π⟩ α' H' h'→RelD ⟨K,π⟩ α' H' d v→Q v H')→spD K n g vs H Q X9
noncomputable def dCal(g:DSp)(f:DA):DE:=fun δ h Q=>f δ h fun ds h1=>g ds h1 Q
section
variable {X:Cx} {k m:Nat} {ps:List Str} {g:DSp} {x:Str} {p pos:Pos} {e:Expr} {es:List Expr} {n:Nat} {f:DA}
theorem se_cal(c:Cal X.prog X.w X.K X.mg X.base k x ps (spD X.K m g))(hr:Room k X.A)(hg:Gl X x)(ha:SA X (e :: es) n f)(hn:n=m:=by rfl)(hdb:(x == ("__debug__":Str))=false:=by decide)
  (he:starEach (e :: es) X.env=(false,eval e X.env) :: starEach es X.env:=by rfl) (hpl:(backTo pos (starEach es X.env)).any (·.1)=false:=by rfl):SE X (.Call (.Name x p) (e :: es) [] pos) (dCal g f) :=
 PE.imp (pe_cal c hr hg ha hdb he hpl) fun σ H Q zz0=>by
  obtain ⟨π,α,δ,h,Q',R,S,f,k⟩:=zz0
  refine ⟨π,α,δ,h,_,R,S,f,fun ds h1 α1 H1 vs f1 e1 R1 q1 l1=>?_⟩
  show spD X.K m g (vs ++ []) H1 Q E0
  rw [List.append_nil]
  exact ⟨π,α1,h1,ds,Q',R1,q1,l1.trans hn,f1,fun d h' α' H' v a b c d'=>k d h' α' H' v a (e1.trans b) c d'⟩
end
noncomputable def runD(n:Nat)(b:DS):DSp:=fun ds h Q=>b { nx:=fun _ h'=>Q .non h',rt:=Q } (ds.map some ++ List.replicate (n - ds.length) none) h
theorem relS_start{K:KP}{α:List Addr}{H:Hp}{ds:List D}{vs:List V}{N:List Str}(r:RelDs K α H ds vs):RelS K α H (ds.map some ++ List.replicate (N.length - ds.length) none) (L2.start N vs):=by
 refine ⟨by unfold L2.start;simp [r.length],fun i d e=>?_⟩
 by_cases hi:i < ds.length
 ·rw [List.getElem?_append_left (by simpa using hi),List.getElem?_map] at e
  cases q:ds[i]? with
  |none=>rw [q] at e;cases e
  |some z =>
   rw [q] at e
   cases e
   obtain ⟨u,h1,h2⟩:=r.get q
   refine ⟨u,?_,h2⟩
   unfold L2.start
   rw [List.getElem?_append_left (by rw [List.length_map,← r.length];exact hi),List.getElem?_map,h1];rfl
 ·rw [List.getElem?_append_right (by simpa using hi),List.getElem?_replicate] at e
  split at e <;> cases e
section
variable {P:Program} {w:World} {K:PySem.W.Frag} {mg:Str→Option Value} {base:Heap}
theorem fn_ok{x qual:Str}{st:Stmt}{f:Addr}{fd:FuncData}{N ps:List Str}{k:Nat}{b:DS}{g:DSp}(F:Fun K x qual st f fd)(S:FnScope N ps (defScope st))
  (hb:∀ (cdv:Value) (A:Around) (outer:List Env) (s:Shared) (H:Hp) (E:XK),Room k (A.deeper (PyProof.Rows.envOfC qual (defScope st) s.heap.objs.size f cdv))→SSs (cxOf CX0 P w K mg base N qual (defScope st) f cdv A outer s H E).nox (defBody st) b)
  (hg:∀ ds h Q,g ds h Q→runD N.length b ds h Q):FnOk P w K mg base CX0 (k + 1) f fd ps (spD K ps.length g):=by
 refine F.ok S (fun vs H Q E h=>?_) fun cdv A outer s H vs Q E hr h=>?_
 ·obtain ⟨π,α,h,ds,Q',R,r,l,_⟩:=h
  rw [← r.length,l]
 ·obtain ⟨π,α,h,ds,Q',R,r,l,q,kk⟩:=h
  refine ⟨_,hb cdv A outer s H E hr,π,α,_,h,{ nx:=fun _ h'=>Q' .non h',rt:=Q' },R,relS_start r,hg ds h Q' q,⟨fun _ h' α' H' σ' a b c _=>kk .non h' α' H' .non a b c .non,fun d h' α' H' v a b c d'=>kk d h' α' H' v a b c d',fun _ _ _ _ _ a _ _ _=>a.elim,fun _ _ _ _ _ a _ _ _=>a.elim,fun _ _ _ _ _ _ _ a _ _ _=>a.elim⟩⟩
end
end DL
namespace DL
open PySem PySem.Spec L2
noncomputable def lsP(h:Hh):D→Option (List D)
 |.lst xs=>some xs
 |.ref i=>match h[i]? with | some (.lst xs)=>some xs | _=>none
 |_=>none
theorem lsP_sq{K:KP}{α:List Addr}{H:Hp}{h:Hh}(R:HRel K α H h){d:D}{v:V}{xs:List D}(r:RelD K α H d v)(e:lsP h d=some xs):∃ p us,v = .ref p∧H p=some (.lst us)∧RelDs K α H xs us:=by
 cases r with
 |lst t r=>cases e;exact ⟨_,_,rfl,t.2.2,r⟩
 |@ref i a hp =>
  have e:(match h[i]? with | some (.lst xs)=>some xs | _=>none)=some xs:=e
  cases q:h[i]? with
  |none=>rw [q] at e;cases e
  |some o =>
   rw [q] at e
   cases o with
   |lst ys =>
    cases e
    obtain ⟨p,us,e1,e2,e3⟩:=R.lst q
    rw [hp] at e1;cases e1
    exact ⟨_,us,rfl,e2,e3⟩
   |_=>cases e
 |_=>cases e
noncomputable def pPlus:P2:=fun x y h Q=>match lsP h x,lsP h y with
 |some xs,some ys=>xs.length + ys.length ≤ 16777216∧Q (.lst (xs ++ ys)) h
 |_,_=>pAdd x y h Q
section
variable {X:Cx}
theorem ok_plus:OpR X (binaryOp .Add) (r2 X.K pPlus):=OpR.imp (op_cat.or ok_add) fun x y H Q zz0=>by
 obtain ⟨π,α,h,d,e,Q',R,r1,r2,f,k⟩:=zz0
 unfold pPlus at f
 cases w:lsP h d with
 |none=>rw [w] at f;exact .inr ⟨π,α,h,d,e,Q',R,r1,r2,f,k⟩
 |some xs =>
  cases w':lsP h e with
  |none=>rw [w,w'] at f;exact .inr ⟨π,α,h,d,e,Q',R,r1,r2,f,k⟩
  |some ys =>
   rw [w,w'] at f
   obtain ⟨p,us,rfl,b,c⟩:=lsP_sq R r1 w
   obtain ⟨p',us',rfl,b',c'⟩:=lsP_sq R r2 w'
   refine .inl ⟨p,p',us,us',rfl,rfl,b,b',by rw [← c.length,← c'.length,sizeLine_eq];exact f.1,fun l hl=>?_⟩
   have e2:Ext α H α (upd H l (.lst (us ++ us'))):=Ext.new hl
   exact k _ h α _ _ f.2 e2 (R.new hl) (.lst ⟨R.out hl,R.outP hl,upd_same⟩ ((c.append c').mono e2))
noncomputable def dCatN(fa fb:DE):DN:=fun δ h Q=>fa δ h fun x h1=>fb δ h1 fun y h2=>match lsP h2 x,lsP h2 y with
 |some xs,some ys=>xs.length + ys.length ≤ 16777216∧Q (xs ++ ys) h2
 |_,_=>False
theorem sn_cat{a b:Expr}{fa fb:DE}{pos:Pos}(ha:SE X a fa)(hb:SE X b fb):SN X (.BinOp a .Add b pos) (dCatN fa fb):=PE.imp (pe_op op_cat ha hb) fun σ H Q zz0=>by
 obtain ⟨π,α,δ,h,Q',R,S,f,k⟩:=zz0
 refine ⟨π,α,δ,h,_,R,S,f,fun x h1 α1 H1 v1 f1 e1 R1 q1=>?_⟩
 refine ⟨π,α1,δ,h1,_,R1,S.mono e1,f1,fun y h2 α2 H2 v2 f2 e2 R2 q2=>?_⟩
 split at f2
 ·rename_i xs ys w w'
  obtain ⟨p,us,rfl,b,c⟩:=lsP_sq R2 (q1.mono e2) w
  obtain ⟨p',us',rfl,b',c'⟩:=lsP_sq R2 q2 w'
  exact ⟨p,p',us,us',rfl,rfl,b,b',by rw [← c.length,← c'.length,sizeLine_eq];exact f2.1,fun l hl=>LN.last (h:=h) k f2.2 (e1.trans e2) R2 (c.append c') hl⟩
 ·exact f2.elim
noncomputable def dRepN(fa fb:DE):DN:=fun δ h Q=>fa δ h fun x h1=>fb δ h1 fun y h2=>match lsP h2 x,y with
 |some xs,.int n=>(-(2 ^ 63) ≤ n∧n < 2 ^ 63∧xs.length * n.toNat ≤ 16777216)∧Q (List.replicate n.toNat xs).flatten h2
 |_,_=>False
theorem op_mulB:OpR X (binaryOp .Mult) (rI IntMulOk fun i j=>.int (i * j)):=opI fun _ _ _ _ _ _ _ hc q=>PyProof.Rows.mul_int q hc
noncomputable def pMulI:P2:=pI IntMulOk fun i j=>i * j
theorem ok_timesI:OpR X (binaryOp .Mult) (r2 X.K pMulI):=pI_ok op_mulB
noncomputable def pMul:P2:=fun x y h Q=>match x,y with
 |.int i,.int j=>IntMulOk i j∧Q (.int (i * j)) h
 |.tup xs,.int n=>(xs ≠ []∧xs.length ≤ 10∧1 ≤ n∧n < 100)∧Q (.tup (List.replicate n.toNat xs).flatten) h
 |x,.int n=>(match lsP h x with | some xs=>(-(2 ^ 63) ≤ n∧n < 2 ^ 63∧xs.length * n.toNat ≤ 16777216)∧Q (.lst (List.replicate n.toNat xs).flatten) h | none=>False)
 |_,_=>False
noncomputable def dSl(fe:DE)(fl fh:DO):DE:=fun δ h Q=>fe δ h fun d h1=>fl δ h1 fun l h2=>fh δ h2 fun u h3=>match d with
 |.tup xs=>Q (.tup (cutD xs l u)) h3
 |d=>match lsOf h3 d with | some xs=>Q (.lst (cutD xs l u)) h3 | none=>False
theorem se_sl{e:Expr}{fe:DE}{lo hi:Option Expr}{fl fh:DO}{pos p2:Pos}(he:SE X e fe)(hl:SO X lo fl)(hu:SO X hi fh):SE X (.Subscript e (.Slice lo hi none p2) pos) (dSl fe fl fh):=PE.imp (pe_slice (sl_tupD.or sl_list) he hl hu) fun σ H Q zz0=>by
 obtain ⟨π,α,δ,h,Q',R,S,f,k⟩:=zz0
 refine ⟨π,α,δ,h,_,R,S,f,fun d h1 α1 H1 v1 f1 e1 R1 q1=>?_⟩
 refine ⟨π,α1,δ,h1,_,R1,S.mono e1,f1,fun l h2 α2 H2 f2 e2 R2=>?_⟩
 refine ⟨π,α2,δ,h2,_,R2,S.mono (e1.trans e2),f2,fun u h3 α3 H3 f3 e3 R3=>?_⟩
 have q3:=(q1.mono e2).mono e3
 split at f3
 ·cases q3 with
  |@tup a us ds t r =>
   refine .inl ⟨a,us,rfl,t.sq,fun z=>?_,fun p hp=>?_⟩
   ·have c:=cut_rel r l u
    rw [z] at c
    exact k _ h3 α3 H3 _ f3 (e1.trans (e2.trans e3)) R3 (.tup t c)
   ·have e4:Ext α3 H3 α3 (upd H3 p (.tup (cutV us l u))):=Ext.new hp
    exact k _ h3 α3 _ _ f3 (e1.trans (e2.trans (e3.trans e4))) (R3.new hp) (.tup ⟨R3.out hp,R3.outP hp,upd_same⟩ ((cut_rel r l u).mono e4))
 ·split at f3
  ·rename_i xs w
   obtain ⟨p,us,rfl,b,c⟩:=lsOf_sq R3 q3 w
   refine .inr ⟨p,us,rfl,b,fun l' hl=>?_⟩
   have e4:Ext α3 H3 α3 (upd H3 l' (.lst (cutV us l u))):=Ext.new hl
   exact k _ h3 α3 _ _ f3 (e1.trans (e2.trans (e3.trans e4))) (R3.new hl) (.lst ⟨R3.out hl,R3.outP hl,upd_same⟩ ((cut_rel c l u).mono e4))
  ·exact f3.elim
noncomputable def dExtend(fo:DE)(fs:DA):DE:=fun δ h Q=>fo δ h fun d h1=>match d with
 |.ref i=>(match h1[i]? with
  |some (.lst _)=>fs δ h1 fun ds h2=>(match ds,h2[i]? with
   |[v],some (.lst ys)=>(match lsP h2 v with | some zs=>ys.length + zs.length ≤ 16777216∧Q .non (h2.set i (.lst (ys ++ zs))) | none=>False)
   |_,_=>False)
  |_=>False)
 |_=>False
theorem se_extend{o e:Expr}{fo:DE}{fs:DA}{n:Nat}{apos cpos:Pos}(ho:SE X o fo)(ha:SA X [e] n fs)(hbase:attributeBase o "extend" X.env (eval o X.env)=eval o X.env:=by rfl)
  (hfew:((backTo cpos (starEach [e] X.env)).all (fun x=>!x.1) && (backToKw cpos (keywordEach [] X.env)).all (fun x=>x.1.isSome)
   && decide ([e].length + ([]:List Keyword).length + (if ([]:List Keyword).isEmpty then 0 else 1) < 30))=true:=by rfl)
  (hline:(apos.endLine == cpos.line)=true:=by rfl) (hs:starEach [e] X.env=(false,eval e X.env) :: starEach [] X.env:=by rfl) (hplain:(backTo cpos (starEach [] X.env)).any (·.1)=false:=by rfl) :
  SE X (.Call (.Attribute o "extend" apos) [e] [] cpos) (dExtend fo fs) :=
 PE.imp (pe_bm PySem.F.plainAttrs_list PySem.F.slot_list_extend PySem.F.type_list_extend mt_extend ho ha hbase hfew hline hs hplain) fun σ H Q zz0=>by
  obtain ⟨π,α,δ,h,Q',R,S,f,k⟩:=zz0
  refine ⟨π,α,δ,h,_,R,S,f,fun d h1 α1 H1 v1 f1 e1 R1 q1=>?_⟩
  cases q1 with
  |@ref i a hp =>
   dsimp only at f1
   cases w:h1[i]? with
   |none=>rw [w] at f1;exact f1.elim
   |some ob =>
    rw [w] at f1
    cases ob with
    |lst xs =>
     obtain ⟨us,e2,e3⟩:=refL R1 hp w
     refine ⟨.inl ⟨rfl,us,SqL.of e2⟩,π,α1,δ,h1,_,R1,S.mono e1,f1,fun ds h2 α2 H2 vs f2 e2 R2 q2 l2=>?_⟩
     split at f2
     ·rename_i v ys w2
      obtain ⟨u,rfl,q9⟩:=q2.inv1
      split at f2
      ·rename_i zs w3
       have hp2:=e2.get hp
       obtain ⟨us2,g2,g3⟩:=refL R2 hp2 w2
       obtain ⟨b,us3,rfl,g4,g5⟩:=lsP_sq R2 q9 w3
       have e4:Ext α2 H2 α2 (upd H2 a (.lst (us2 ++ us3))):=Ext.write (List.mem_of_getElem? hp2)
       exact ⟨a,b,us2,us3,rfl,rfl,g2,g4,by rw [← g3.length,← g5.length,sizeLine_eq];exact f2.1,k _ _ α2 _ _ f2.2 (e1.trans (e2.trans e4)) (R2.write hp2 (.lst upd_same ((g3.append g5).mono e4))) .non⟩
      ·exact f2.elim
     ·exact f2.elim
    |_=>exact f1.elim
  |_=>exact f1.elim
noncomputable def kindD(h:Hh):D→Option String
 |.non=>some "NoneType"
 |.bl _=>some "bool"
 |.int _=>some "int"
 |.str _=>some "str"
 |.tup _=>some "tuple"
 |.lst _=>some "list"
 |.ref i=>match h[i]? with | some (.lst _)=>some "list" | some (.dT none _)=>some "dict" | some (.dK _)=>some "dict" | _=>none
 |_=>none
noncomputable def isKind(t T:String):Bool:=t == T || (t == "bool" && T == "int")
theorem kit_of{K:PySem.W.Frag}{t T:String}(ht:t ∈ ["NoneType","bool","int","str","tuple","list","dict"])(hT:T ∈ ["bool","int","str","tuple","list","dict"]):PySem.W.kitOne K (.type t) (.type T)=some (isKind t T):=by
 simp only [List.mem_cons,List.not_mem_nil,or_false] at ht hT
 rcases ht with rfl | rfl | rfl | rfl | rfl | rfl | rfl <;> rcases hT with rfl | rfl | rfl | rfl | rfl | rfl <;> rfl
noncomputable def dIsinst(T:String)(fa:DE):DE:=fun δ h Q=>fa δ h fun d h1=>match kindD h1 d with | some t=>Q (.bl (isKind t T)) h1 | none=>False
theorem kind_in{h:Hh}{d:D}{t:String}(e:kindD h d=some t):t ∈ ["NoneType","bool","int","str","tuple","list","dict"]:=by
 unfold kindD at e
 split at e
 all_goals first | (cases e;done) | (cases e;decide) | skip
 split at e
 all_goals first | (cases e;done) | (cases e;decide)
theorem call_isinstD{T:String}:CallR X (.builtin "isinstance") (fun xs H Q=>∃ x t b,xs=[x,.ty T]∧(TyOf X.K H x t∨(t = .type "tuple"∧∃ a us,x = .ref a∧SqT X.K H a us))∧PySem.W.kitOne X.K t (.type T)=some b∧Q (.bl b) H):=by
 intro pins s σ H xs us Q I r h
 obtain ⟨x,t,b,rfl,ty,e,q⟩:=h
 obtain ⟨u,w',rfl,ru,rw'⟩:=vals2 r
 cases rw'
 rcases ty with ty | ⟨rfl,a,us,rfl,hq⟩
 ·exact isinst_ok I ru ty e fun tk=>⟨.bl b,H,I.tok _,rfl,q⟩
 ·cases ru
  obtain ⟨its,rv,⟨o,h1,h2,_⟩,_⟩:=I.tuple hq
  exact PySem.W.kia_one PySem.W.kitx_tuple I.kIn ⟨o,h1,h2⟩ e (fun z=>nomatch z) fun tk=>⟨.bl b,H,I.tok _,rfl,q⟩
theorem kind_ty{K:PySem.W.Frag}{π α:List Addr}{H:Hp}{h:Hh}{d:D}{v:V}{t:String}(R:HRel ⟨K,π⟩ α H h)(r:RelD ⟨K,π⟩ α H d v)(e:kindD h d=some t):TyOf K H v (.type t)∨(Value.type t = .type "tuple"∧∃ a us,v = .ref a∧SqT K H a us):=by
 cases r with
 |non=>cases e;exact .inl .non
 |bl b=>cases e;exact .inl (.bl b)
 |int i=>cases e;exact .inl (.int i)
 |str x=>cases e;exact .inl (.str x)
 |tup t r=>cases e;exact .inr ⟨rfl,_,_,rfl,t.sq⟩
 |lst t r=>cases e;exact .inl (.lst t.2.2)
 |scr t r=>cases e
 |exc _ _ _=>cases e
 |@ref i a hp =>
  have e:(match h[i]? with | some (.lst _)=>some "list" | some (.dT none _)=>some "dict" | some (.dK _)=>some "dict" | _=>none)=some t:=e
  cases q:h[i]? with
  |none=>rw [q] at e;cases e
  |some o =>
   rw [q] at e
   cases o with
   |lst ys =>
    cases e
    obtain ⟨us,e2,e3⟩:=refL R hp q
    exact .inl (.lst e2)
   |dT z ys =>
    cases z with
    |none =>
     cases e
     obtain ⟨p,us,e1,e2,e3⟩:=R.dT q
     rw [hp] at e1;cases e1
     exact .inl (.dT e2)
    |some o=>cases e
   |dK ys =>
    cases e
    obtain ⟨p,us,e1,e2,e3⟩:=R.dK q
    rw [hp] at e1;cases e1
    exact .inl (.dK e2)
   |ins C fs=>cases e
theorem se_isinst{T:String}{a:Expr}{fa:DE}{x:Str}{p p2 pos:Pos}(hT:T ∈ ["bool","int","str","tuple","list","dict"])(hg:Gl X "isinstance")(hm:X.mg "isinstance" = none)(ha:SE X a fa)(ht:PE X (.Name x p2) (tC (.ty T)))
  (he:starEach [a,.Name x p2] X.env=(false,eval a X.env) :: starEach [.Name x p2] X.env:=by rfl) (he2:starEach [.Name x p2] X.env=(false,eval (.Name x p2) X.env) :: starEach [] X.env:=by rfl) (hpl:(backTo pos (starEach [.Name x p2] X.env)).any (·.1)=false:=by rfl) :
  SE X (.Call (.Name "isinstance" p) [a,.Name x p2] [] pos) (dIsinst T fa):=PE.imp (pe_callB call_isinstD hg hm PyProof.Rows.boot_isinstance (pa_cons ha (pa_cons ht pa_nil he2) he) (by decide) (by decide) he hpl) fun σ H Q ⟨π,α,δ,h,Q',R,S,f,k⟩=>by
 refine ⟨π,α,δ,h,_,R,S,f,fun d h1 α1 H1 v1 f1 e1 R1 q1=>?_⟩
 split at f1
 ·rename_i t w
  exact ⟨v1,.type t,_,rfl,kind_ty R1 q1 w,kit_of (kind_in w) hT,k _ h1 α1 H1 _ f1 e1 R1 (.bl _)⟩
 ·exact f1.elim
end
end DL
namespace DL
open PySem PySem.Spec L2
section
variable {X:Cx}
noncomputable def keyS:D→Option Key
 |.int i=>some (.inl i)
 |.str x=>some (.inr x)
 |_=>none
noncomputable def lkG(kvs:List (Key×Int))(k:Key):Option Int:=(kvs.find? fun kv=>decide (kv.1=k)).map (·.2)
noncomputable def dGet(kvs:List (Key×Int))(fi:DE):DE:=fun δ h Q=>fi δ h fun d h1=>match (keyS d).bind fun k=>lkG kvs k with | some v=>Q (.int v) h1 | none=>False
theorem key_rel{K:KP}{α:List Addr}{H:Hp}{d:D}{v:V}{k:Key}(r:RelD K α H d v)(e:keyS d=some k):v=kV k:=by
 cases r <;> cases e <;> rfl
theorem valV_lookup(kvs:List (Key×Int))(k:Key):valV (kvs.map fun p=>(p.1,V.int p.2)) k=(lkG kvs k).map V.int:=by
 unfold valV lkG
 rw [List.find?_map]
 rw [Option.map_map,Option.map_map]
 rfl
theorem se_gget{x:Str}{kvs:List (Key×Int)}{i:Expr}{fi:DE}{p pos:Pos}(hg:Gl X x)(hk:∃ a,X.mg x=some (.ref a)∧KDict X.prog X.w X.K a (kvs.map fun p=>(p.1,V.int p.2)))(hi:SE X i fi)(hs:NoSl i)(hd:(x == ("__debug__":Str))=false:=by decide) :
  SE X (.Subscript (.Name x p) i pos) (dGet kvs fi):=let ⟨_,hm,hk⟩:=hk;PE.imp (pe_gget hg hm hk hi hs hd) fun σ H Q ⟨π,α,δ,h,Q',R,S,f,k⟩=>by
 refine ⟨π,α,δ,h,_,R,S,f,fun d h1 α1 H1 v1 f1 e1 R1 q1=>?_⟩
 cases w:keyS d with
 |none=>rw [w] at f1;exact f1.elim
 |some kk =>
  rw [w] at f1
  have f1:(match lkG kvs kk with | some v=>Q' (.int v) h1 | none=>False):=f1
  cases w2:lkG kvs kk with
  |none=>rw [w2] at f1;exact f1.elim
  |some v =>
   rw [w2] at f1
   exact ⟨kk,.int v,key_rel q1 w,by rw [valV_lookup,w2];rfl,k _ h1 α1 H1 _ f1 e1 R1 (.int _)⟩
end
end DL
namespace Att
open PySem PySem.W PySem.Calls PyProof.Rows
theorem bits_weight:∀ (ns:List Int) (x:Int),x ∈ ns→Builtin.Int.intBits x ≤ WData.weightAll (ns.map WData.int)
 |n :: r,x,h=>by
  rw [List.map_cons]
  show _ ≤ WData.weight (.int n) + 1 + WData.weightAll (r.map WData.int)
  rcases List.mem_cons.mp h with rfl | h
  ·have e:WData.weight (.int x)=Builtin.Int.intBits x:=rfl
   rw [e];omega
  ·have:=bits_weight r x h
   omega
theorem bits_args{ns:List Int}(h:WData.layableAll [WData.list (ns.map WData.int)]=true):∀ x ∈ ns,Builtin.Int.intBits x ≤ 1048576:=fun x hx=>by
 have h:(WData.layable (.list (ns.map WData.int)) && true)=true:=h
 rw [Bool.and_true] at h
 unfold WData.layable at h
 rw [Bool.and_eq_true] at h
 have h2:WData.weight (.list (ns.map WData.int)) ≤ 2 ^ 20:=of_decide_eq_true h.2
 exact Nat.le_trans (bits_weight ns x hx) h2
theorem attach_call2{l:OpenLaw}{n:Nat}{q:Program}{loose:List Str}{XP:(Str→Option Value)→Heap→Prop}{YP:World→Heap→Prop}{d:DefRec}
  (hn:l.most=some n) (hdf:d.params.defaults=[])
  (call:∀ (w:World) (s₀ s₁:Shared) (mg mb:Str→Option Value) (fa:Addr) (o:Obj) (pm cd doc:Value) (a:Addr) (vs:List Value) (ns:List Int),
   Ground q loose [] XP w s₀ mg mb s₁.heap→YP w s₁.heap →
   s₁.heap.get? fa=some o→o.data = .func (docDef d.name d.params d.body d.scope pm cd doc)→s₁.heap.CodeRec cd d.name→mg d.name=some (.ref fa) →
   s₁.heap.get? a=some { cls:=.type "list",data:=.seq vs.toArray }→IntsAre vs ns→ns.length ≤ n→(∀ x ∈ ns,Builtin.Int.intBits x ≤ 1048576)→s₁.gens = #[] →
   codeAny (model l.prog w) callerA (.call (.ref fa) ⟨[.ref a],[]⟩) (fun r s'=>r = .ok (.ret (.bool true))∧OldK s₁.heap s'.heap∧s'.os=s₁.os∧AllBare s'.gens) s₁) :
  WalkO q loose XP YP l.row.toRowW d [] (fun f vs=>PySem.call f vs):=by
 intro w s₀ s₁ mg mb G Y fa o pm cd doc dV kV ho hd hcd hD hmg hg args vals as hpre hlay hrd hwl hlo
 obtain rfl:dV = .none:=Dflts.none hD hdf
 obtain rfl:kV = .none:=Dflts.noKw hD
 obtain ⟨a,vs,ns,rfl,rfl,hobj,hints,hlen⟩:=script_of hn hpre hwl
 refine enter_call (codeAny_mono (call w s₀ s₁ mg mb fa o pm cd doc a vs ns G Y ho (fd_plain hd) hcd hmg hobj hints hlen (bits_args hlay) hg) fun r s' hq=>?_)
 obtain ⟨rfl,h2,h3,h4⟩:=hq
 exact ⟨.inl ⟨.bool true,.bool true,[],rfl,fun _=>rfl,.bool true,post_true l _,fun _=>⟨List.Pairwise.nil,fun _ hm=>(nomatch hm)⟩⟩,h2,h3,h4⟩
end Att
namespace DL
open PySem PySem.Spec L2 PySem.W PyProof.Rows
theorem walkD{l:OpenLaw}{n k:Nat}{q:Program}{loose:List Str}{XP:(Str→Option Value)→Heap→Prop}{YP:World→Heap→Prop}{d:DefRec}{K:Params→PySem.W.Frag}{S:DSp}{x:Str}
  (hn:l.most=some n) (hn2:n ≤ sizeLine) (hdf:d.params.defaults=[]) (hr:Room k callerA)
  (hY:∀ (w:World) (h:Heap),YP w h→(K w.params).In h)
  (F:∀ (w:World) (mg:Str→Option Value) (fa:Addr) (h:Heap),(K w.params).In h→h.Ns mainGlobals mg→mg d.name=some (.ref fa) →
   ∃ fd:FuncData,(∀ (s:Shared) (u:Value),BindsTo s fd ⟨[u],[]⟩ [(x,u)]) ∧
    ∀ base:Heap,(K w.params).In base→base.Ns mainGlobals mg→FnOk l.prog w (K w.params) mg base CX0 k fa fd [x] (spD (K w.params) 1 S))
  (hS:∀ ns:List Int,ns.length ≤ n→(∀ x ∈ ns,Builtin.Int.intBits x ≤ 1048576)→S [.scr (ns.map D.int)] [] (fun v _=>v = .bl true)) :
  WalkO q loose XP YP l.row.toRowW d [] (fun f vs=>PySem.call f vs):=by
 refine Att.attach_call2 hn hdf fun w s₀ s₁ mg mb fa o pm cd doc a vs ns G Y ho hd hcd hmg hobj hints hlen hbits hg=>?_
 have KX:=hY w _ Y
 obtain ⟨fd,hb,hF⟩:=F w mg fa _ KX G.T.g hmg
 refine L2.law_call KX G.T.g G.T.b G.T.builtins G.T.nolimit hg hobj hints (Nat.le_trans hlen hn2) hr hF hb (fun H hO hS'=>?_) fun H e s' z=>z
 refine ⟨[],[],[],[.scr (ns.map D.int)],_,⟨rfl,List.nodup_nil,fun p hp=>(nomatch hp),fun i o e=>?_⟩,.cons (.scr (a:=a) (us:=ns.map V.int) ?_ (RelDs.ints ns)) .nil,rfl,hS ns hlen hbits,fun d h' α' H' v a b c r=>?_⟩
 ·simp at e
 ·rcases hS' with h | h
  ·exact .inl ⟨fun z=>(nomatch z),fun z=>(nomatch z),h⟩
  ·exact .inr h
 ·have a:d = .bl true:=a
  subst a
  cases r;rfl
end DL
namespace DL
open PySem PySem.Spec L2
mutual
noncomputable def nrD:D→Bool
 |.tup xs=>nrDs xs
 |.lst xs=>nrDs xs
 |.scr xs=>nrDs xs
 |.ref _=>false
 |_=>true
noncomputable def nrDs:List D→Bool
 |[]=>true
 |d :: ds=>nrD d && nrDs ds
end
noncomputable def nrO:O→Bool
 |.lst xs=>nrDs xs
 |.dT _ kvs=>nrDs (kvs.map (·.2))
 |.dK kvs=>nrDs (kvs.map (·.2))
 |.ins _ fs=>nrDs (fs.map (·.2))
mutual
inductive Vw(n:Nat)(h:Hh):D→D→Prop
 |nr {d:D}:nrD d=true→Vw n h d d
 |old {i:Nat}:i < n→Vw n h (.ref i) (.ref i)
 |opn {i:Nat} {xs ys:List D}:n ≤ i→h[i]?=some (.lst xs)→Vws n h xs ys→Vw n h (.ref i) (.lst ys)
 |tup {xs ys:List D}:Vws n h xs ys→Vw n h (.tup xs) (.tup ys)
 |lst {xs ys:List D}:Vws n h xs ys→Vw n h (.lst xs) (.lst ys)
inductive Vws(n:Nat)(h:Hh):List D→List D→Prop
 |nil:Vws n h [] []
 |cons {d e:D} {ds es:List D}:Vw n h d e→Vws n h ds es→Vws n h (d :: ds) (e :: es)
end
section
variable {K:PySem.W.Frag} {π α β:List Addr} {H H':Hp} {h:Hh}
theorem VT.less{a:Addr}{us:List V}(t:VT ⟨K,π⟩ (α ++ β) H a us):VT ⟨K,π⟩ α H a us:=⟨fun z=>t.1 (List.mem_append_left _ z),t.2⟩
theorem VS.less{a:Addr}{us:List V}(t:VS ⟨K,π⟩ (α ++ β) H a us):VS ⟨K,π⟩ α H a us:=by
 rcases t with ⟨n,m,t⟩ | t
 ·exact .inl ⟨fun z=>n (List.mem_append_left _ z),m,t⟩
 ·exact .inr t
theorem VL.less{a:Addr}{us:List V}(t:VL ⟨K,π⟩ (α ++ β) H a us):VL ⟨K,π⟩ α H a us:=⟨fun z=>t.1 (List.mem_append_left _ z),t.2⟩
theorem VE.less{a:Addr}{u:HO}(t:VE ⟨K,π⟩ (α ++ β) H a u):VE ⟨K,π⟩ α H a u:=⟨fun z=>t.1 (List.mem_append_left _ z),t.2⟩
theorem nrDs_and{x:D}{r:List D}(e:nrDs (x :: r)=true):nrD x=true∧nrDs r=true:=by
 have e:(nrD _ && nrDs _)=true:=e
 rw [Bool.and_eq_true] at e
 exact e
theorem RelD.nr{d:D}{v:V}(e:nrD d=true)(r:RelD ⟨K,π⟩ (α ++ β) H d v):RelD ⟨K,π⟩ α H d v :=
 RelD.rec (motive_1:=fun d v _=>nrD d=true→RelD ⟨K,π⟩ α H d v) (motive_2:=fun ds us _=>nrDs ds=true→RelDs ⟨K,π⟩ α H ds us) (fun _=>.non) (fun b _=>.bl b) (fun i _=>.int i) (fun x _=>.str x) (fun t _ h e=>.tup t.less (h e)) (fun t _ h e=>.lst t.less (h e)) (fun t _ h e=>.scr t.less (h e)) (fun _ e=>nomatch e) (fun n t r _=>.exc n t.less (r.map fun _ _ z=>z.less)) (fun _=>.nil) (fun _ _ h t e=>.cons (h (nrDs_and e).1) (t (nrDs_and e).2)) r e
theorem RelDs.nr{ds:List D}{vs:List V}(e:nrDs ds=true)(r:RelDs ⟨K,π⟩ (α ++ β) H ds vs):RelDs ⟨K,π⟩ α H ds vs:=by
 induction ds generalizing vs with
 |nil=>cases r;exact .nil
 |cons d ds ih=>cases r with | cons h t=>exact .cons (h.nr (nrDs_and e).1) (ih (nrDs_and e).2 t)
mutual
noncomputable def rfD(n:Nat):D→Bool
 |.tup xs=>rfDs n xs
 |.lst xs=>rfDs n xs
 |.scr xs=>rfDs n xs
 |.ref i=>decide (i < n)
 |_=>true
noncomputable def rfDs(n:Nat):List D→Bool
 |[]=>true
 |x :: r=>rfD n x && rfDs n r
end
theorem RelD.rf{d:D}{v:V}(r:RelD ⟨K,π⟩ α H d v):rfD α.length d=true :=
 RelD.rec (motive_1:=fun d _ _=>rfD α.length d=true) (motive_2:=fun ds _ _=>rfDs α.length ds=true) rfl (fun _=>rfl) (fun _=>rfl) (fun _=>rfl) (fun _ _ h=>h) (fun _ _ h=>h) (fun _ _ h=>h) (fun h=>decide_eq_true (List.getElem?_eq_some_iff.mp h).1) (fun _ _ _=>rfl) rfl (fun _ _ h t=>Bool.and_eq_true_iff.mpr ⟨h,t⟩) r
theorem RelDs.rf{ds:List D}{vs:List V}(r:RelDs ⟨K,π⟩ α H ds vs):rfDs α.length ds=true:=by
 induction ds generalizing vs with
 |nil=>rfl
 |cons d ds ih=>cases r with | cons h t=>exact Bool.and_eq_true_iff.mpr ⟨h.rf,ih t⟩
theorem RelD.old2{d:D}{v:V}(e:rfD α.length d=true)(r:RelD ⟨K,π⟩ (α ++ β) H d v):RelD ⟨K,π⟩ α H d v :=
 RelD.rec (motive_1:=fun d v _=>rfD α.length d=true→RelD ⟨K,π⟩ α H d v) (motive_2:=fun ds us _=>rfDs α.length ds=true→RelDs ⟨K,π⟩ α H ds us) (fun _=>.non) (fun b _=>.bl b) (fun i _=>.int i) (fun x _=>.str x) (fun t _ h e=>.tup t.less (h e)) (fun t _ h e=>.lst t.less (h e)) (fun t _ h e=>.scr t.less (h e)) (fun h1 e=>.ref (by rw [List.getElem?_append_left (of_decide_eq_true e)] at h1;exact h1)) (fun n t r _=>.exc n t.less (r.map fun _ _ z=>z.less)) (fun _=>.nil) (fun _ _ h t e=>.cons (h (Bool.and_eq_true_iff.mp e).1) (t (Bool.and_eq_true_iff.mp e).2)) r e
theorem RelDs.old2{ds:List D}{vs:List V}(e:rfDs α.length ds=true)(r:RelDs ⟨K,π⟩ (α ++ β) H ds vs):RelDs ⟨K,π⟩ α H ds vs:=by
 induction ds generalizing vs with
 |nil=>cases r;exact .nil
 |cons d ds ih=>cases r with | cons h t=>exact .cons (h.old2 (Bool.and_eq_true_iff.mp e).1) (ih (Bool.and_eq_true_iff.mp e).2 t)
theorem RelD.old{d:D}{v v0:V}(r0:RelD ⟨K,π⟩ α H d v0)(r:RelD ⟨K,π⟩ (α ++ β) H' d v):RelD ⟨K,π⟩ α H' d v:=r.old2 r0.rf
theorem RelDs.old{ds:List D}{vs vs0:List V}(r0:RelDs ⟨K,π⟩ α H ds vs0)(r:RelDs ⟨K,π⟩ (α ++ β) H' ds vs):RelDs ⟨K,π⟩ α H' ds vs:=r.old2 r0.rf
theorem RelKV.old{κ:Type}{ds:List (κ×D)}{vs vs0:List (κ×V)}(r0:RelKV ⟨K,π⟩ α H ds vs0)(r:RelKV ⟨K,π⟩ (α ++ β) H' ds vs):RelKV ⟨K,π⟩ α H' ds vs:=by
 induction r0 generalizing vs with
 |nil=>cases r;exact .nil
 |cons r0 _ ih=>cases r with | cons r t=>exact .cons (RelD.old r0 r) (ih t)
theorem RelKV.nr{κ:Type}{ds:List (κ×D)}{vs:List (κ×V)}(e:nrDs (ds.map (·.2))=true)(r:RelKV ⟨K,π⟩ (α ++ β) H ds vs):RelKV ⟨K,π⟩ α H ds vs:=by
 induction r with
 |nil=>exact .nil
 |cons r _ ih =>
  have e:(nrD _ && nrDs _)=true:=e
  rw [Bool.and_eq_true] at e
  exact .cons (RelD.nr e.1 r) (ih e.2)
theorem RelO'.nr{p:Addr}{o:O}(e:nrO o=true)(r:RelO' ⟨K,π⟩ (α ++ β) H p o):RelO' ⟨K,π⟩ α H p o:=by
 cases r with
 |lst h t=>exact .lst h (t.nr e)
 |dT h t=>exact .dT h (t.nr e)
 |dK h t=>exact .dK h (t.nr e)
 |ins n h t=>exact .ins n h (t.nr e)
theorem RelO'.old{p p0:Addr}{o:O}(r0:RelO' ⟨K,π⟩ α H p0 o)(r:RelO' ⟨K,π⟩ (α ++ β) H' p o):RelO' ⟨K,π⟩ α H' p o:=by
 cases r0 with
 |lst h0 t0=>cases r with | lst h t=>exact .lst h (t0.old t)
 |dT h0 t0=>cases r with | dT h t=>exact .dT h (t0.old t)
 |dK h0 t0=>cases r with | dK h t=>exact .dK h (t0.old t)
 |ins n0 h0 t0=>cases r with | ins n h t=>exact .ins n h (t0.old t)
theorem Vw.rel(R:HRel ⟨K,π⟩ (α ++ β) H h){n:Nat}(hn:α.length=n){d e:D}{v:V}(w:Vw n h d e)(r:RelD ⟨K,π⟩ (α ++ β) H d v):RelD ⟨K,π⟩ α H e v:=by
 refine Vw.rec (motive_1:=fun d e _=>∀ v,RelD ⟨K,π⟩ (α ++ β) H d v→RelD ⟨K,π⟩ α H e v) (motive_2:=fun ds es _=>∀ vs,RelDs ⟨K,π⟩ (α ++ β) H ds vs→RelDs ⟨K,π⟩ α H es vs) (fun e v r=>r.nr e) ?_ ?_ ?_ ?_ ?_ ?_ w v r
 ·intro i hi v r
  cases r with
  |ref hp=>exact .ref (by rw [List.getElem?_append_left (by omega)] at hp;exact hp)
 ·intro i xs ys hi e _ ih v r
  cases r with
  |ref hp =>
  obtain ⟨us,e2,e3⟩:=refL R hp e
  have hm:=List.mem_of_getElem? hp
  refine .lst ⟨fun z=>?_,fun z=>(R.dis _ z).1 hm,e2⟩ (ih _ e3)
  obtain ⟨j,hj,ej⟩:=List.getElem_of_mem z
  subst ej
  have q:(α ++ β)[j]?=some α[j]:=by rw [List.getElem?_append_left hj,List.getElem?_eq_getElem hj]
  have:=(List.getElem?_inj (List.getElem?_eq_some_iff.mp hp).1 R.nd).mp (hp.trans q.symm)
  omega
 ·intro xs ys _ ih v r
  cases r with
  |tup q r=>exact .tup q.less (ih _ r)
 ·intro xs ys _ ih v r
  cases r with
  |lst q r=>exact .lst q.less (ih _ r)
 ·intro vs r
  cases r;exact .nil
 ·intro d e ds es _ _ h1 h2 vs r
  cases r with
  |cons r s=>exact .cons (h1 _ r) (h2 _ s)
end
noncomputable def Dr(h:Hh)(Q:DK):DK:=fun d h'=>∃ h2 g d',h'=h2 ++ g∧h2.length=h.length∧(∀ (i:Nat) (o:O),h2[i]?=some o→h[i]?=some o∨nrO o=true)∧Vw h.length h' d d'∧Q d' h2
theorem Dr.rel{K:PySem.W.Frag}{π α α':List Addr}{H H':Hp}{h h':Hh}{Q:DK}{d:D}{v:V}(R:HRel ⟨K,π⟩ α H h)(e:Ext α H α' H')(R':HRel ⟨K,π⟩ α' H' h')(r:RelD ⟨K,π⟩ α' H' d v)(q:Dr h Q d h') :
  ∃ d' h2,Q d' h2∧Ext α H α H'∧HRel ⟨K,π⟩ α H' h2∧RelD ⟨K,π⟩ α H' d' v:=by
 obtain ⟨h2,g,d',rfl,hl,ho,vw,q⟩:=q
 obtain ⟨⟨β,rfl,hb⟩,ek,ed⟩:=e
 have hn:=R.len
 refine ⟨d',h2,q,⟨⟨[],by simp,fun p hp=>nomatch hp⟩,ek,ed⟩,⟨by omega,?_,fun p hp=>?_,fun i o eo=>?_⟩,vw.rel R' hn r⟩
 ·exact R.nd
 ·exact ⟨fun z=>(R'.dis p hp).1 (List.mem_append_left _ z),(R'.dis p hp).2⟩
 ·have hi:i < h2.length:=(List.getElem?_eq_some_iff.mp eo).1
  obtain ⟨p,ep,ro⟩:=R'.obj i o (by rw [List.getElem?_append_left hi];exact eo)
  refine ⟨p,by rw [List.getElem?_append_left (by omega)] at ep;exact ep,?_⟩
  rcases ho i o eo with z | z
  ·obtain ⟨p0,_,r0⟩:=R.obj i o z
   exact r0.old ro
  ·exact ro.nr z
theorem fn_okD{P:Program}{w:World}{K:PySem.W.Frag}{mg:Str→Option Value}{base:Heap}{x qual:Str}{st:Stmt}{f:Addr}{fd:FuncData}{N ps:List Str}{k:Nat}{b:DS}{g:DSp}(F:Fun K x qual st f fd)(S:FnScope N ps (defScope st))
  (hb:∀ (cdv:Value) (A:Around) (outer:List Env) (s:Shared) (H:Hp) (E:XK),Room k (A.deeper (PyProof.Rows.envOfC qual (defScope st) s.heap.objs.size f cdv))→SSs (cxOf CX0 P w K mg base N qual (defScope st) f cdv A outer s H E).nox (defBody st) b)
  (hg:∀ ds h Q,g ds h Q→runD N.length b ds h (Dr h Q)):FnOk P w K mg base CX0 (k + 1) f fd ps (spD K ps.length g):=by
 refine F.ok S (fun vs H Q E h=>?_) fun cdv A outer s H vs Q E hr h=>?_
 ·obtain ⟨π,α,h,ds,Q',R,r,l,_⟩:=h
  rw [← r.length,l]
 ·obtain ⟨π,α,h,ds,Q',R,r,l,q,kk⟩:=h
  refine ⟨_,hb cdv A outer s H E hr,π,α,_,h,{ nx:=fun _ h'=>Dr h Q' .non h',rt:=Dr h Q' },R,relS_start r,hg ds h Q' q,⟨fun _ h' α' H' σ' a b c _=>?_,fun d h' α' H' v a b c d'=>?_,fun _ _ _ _ _ a _ _ _=>a.elim,fun _ _ _ _ _ a _ _ _=>a.elim,fun _ _ _ _ _ _ _ a _ _ _=>a.elim⟩⟩
  ·obtain ⟨d',h2,q,e,R2,r2⟩:=a.rel R b c .non
   exact kk d' h2 α H' .non q e R2 r2
  ·obtain ⟨d',h2,q,e,R2,r2⟩:=a.rel R b c d'
   exact kk d' h2 α H' v q e R2 r2
theorem nrDs_map{τ:Type}{g:τ→D}(hg:∀ x,nrD (g x)=true):∀ xs:List τ,nrDs (xs.map g)=true
 |[]=>rfl
 |x :: r=>by
  show (nrD (g x) && nrDs (r.map g))=true
  rw [hg x,nrDs_map hg r];rfl
theorem Vws.of{n:Nat}{h:Hh}:∀ {xs:List D},nrDs xs=true→Vws n h xs xs
 |[],_=>.nil
 |x :: r,e=>by
  have e:(nrD x && nrDs r)=true:=e
  rw [Bool.and_eq_true] at e
  exact .cons (.nr e.1) (Vws.of e.2)
theorem Vws.of_get{n:Nat}{h:Hh}:∀ {xs ys:List D},xs.length=ys.length→(∀ (i:Nat) (x y:D),xs[i]?=some x→ys[i]?=some y→Vw n h x y)→Vws n h xs ys
 |[],[],_,_=>.nil
 |x :: xs,y :: ys,e,k=>.cons (k 0 x y rfl rfl) (Vws.of_get (by simpa using e) fun i a b h1 h2=>k (i + 1) a b (by simpa using h1) (by simpa using h2))
theorem Dr.drop{h g:Hh}{Q:DK}{d:D}(e:nrD d=true)(q:Q d h):Dr h Q d (h ++ g):=⟨h,g,d,rfl,rfl,fun _ _ e=>.inl e,.nr e,q⟩
theorem Dr.dropL{h:Hh}{Q:DK}{xs:List D}{g1 g2:Hh}{k:Nat}(e:nrDs xs=true)(hk:k=h.length + g1.length)(q:Q (.lst xs) h):Dr h Q (.ref k) (h ++ (g1 ++ .lst xs :: g2)):=by
 refine ⟨h,g1 ++ .lst xs :: g2,.lst xs,rfl,rfl,fun _ _ e=>.inl e,.opn (by omega) ?_ (.of e),q⟩
 subst hk
 rw [List.getElem?_append_right (by omega),show h.length + g1.length - h.length=g1.length by omega,List.getElem?_append_right (Nat.le_refl _)]
 simp
end DL
namespace DL
open PySem L2
theorem atN{α:Type}(xs:List α)(i:Nat):atI xs (i:Int)=xs[i]?:=by
 unfold atI ixN
 by_cases h:i < xs.length
 ·rw [if_pos (by omega),if_pos (by omega)];simp
 ·rw [if_pos (by omega),if_neg (by omega)]
  simp;omega
theorem atI_of{α:Type}{xs:List α}{i:Int}(h0:0 ≤ i):atI xs i=xs[i.toNat]?:=by
 have:=atN xs i.toNat
 rwa [Int.toNat_of_nonneg h0] at this
theorem atI_0{α:Type}(a:α)(l:List α):atI (a :: l) 0=some a:=atN _ 0
theorem atI_1{α:Type}(a b:α)(l:List α):atI (a :: b :: l) 1=some b:=atN _ 1
theorem atI_2{α:Type}(a b c:α)(l:List α):atI (a :: b :: c :: l) 2=some c:=atN _ 2
theorem atI_3{α:Type}(a b c d:α)(l:List α):atI (a :: b :: c :: d :: l) 3=some d:=atN _ 3
theorem at2_0{α:Type}(a b:α):atI [a,b] 0=some a:=rfl
theorem at2_1{α:Type}(a b:α):atI [a,b] 1=some b:=rfl
theorem at3_0{α:Type}(a b c:α):atI [a,b,c] 0=some a:=rfl
theorem at3_1{α:Type}(a b c:α):atI [a,b,c] 1=some b:=rfl
theorem at3_2{α:Type}(a b c:α):atI [a,b,c] 2=some c:=rfl
theorem at4_0{α:Type}(a b c d:α):atI [a,b,c,d] 0=some a:=rfl
theorem at4_1{α:Type}(a b c d:α):atI [a,b,c,d] 1=some b:=rfl
theorem at4_2{α:Type}(a b c d:α):atI [a,b,c,d] 2=some c:=rfl
theorem at4_3{α:Type}(a b c d:α):atI [a,b,c,d] 3=some d:=rfl
theorem at5_0{α:Type}(a b c d e:α):atI [a,b,c,d,e] 0=some a:=rfl
theorem at5_1{α:Type}(a b c d e:α):atI [a,b,c,d,e] 1=some b:=rfl
theorem at5_2{α:Type}(a b c d e:α):atI [a,b,c,d,e] 2=some c:=rfl
theorem at5_3{α:Type}(a b c d e:α):atI [a,b,c,d,e] 3=some d:=rfl
theorem at5_4{α:Type}(a b c d e:α):atI [a,b,c,d,e] 4=some e:=rfl
theorem at8_0{α:Type}(a b c d e f g i:α):atI [a,b,c,d,e,f,g,i] 0=some a:=rfl
theorem at8_1{α:Type}(a b c d e f g i:α):atI [a,b,c,d,e,f,g,i] 1=some b:=rfl
theorem at8_2{α:Type}(a b c d e f g i:α):atI [a,b,c,d,e,f,g,i] 2=some c:=rfl
theorem at8_3{α:Type}(a b c d e f g i:α):atI [a,b,c,d,e,f,g,i] 3=some d:=rfl
theorem at8_4{α:Type}(a b c d e f g i:α):atI [a,b,c,d,e,f,g,i] 4=some e:=rfl
theorem at8_5{α:Type}(a b c d e f g i:α):atI [a,b,c,d,e,f,g,i] 5=some f:=rfl
theorem at8_6{α:Type}(a b c d e f g i:α):atI [a,b,c,d,e,f,g,i] 6=some g:=rfl
theorem at8_7{α:Type}(a b c d e f g i:α):atI [a,b,c,d,e,f,g,i] 7=some i:=rfl
theorem ix_ls{h:Hh}{d:D}{xs:List D}(e:lsOf h d=some xs)(k:Int):ixD h d (.int k)=atI xs k:=by
 cases d with
 |lst ys=>cases e;rfl
 |scr ys=>cases e;rfl
 |ref i =>
  have e:(match h[i]? with | some (.lst xs)=>some xs | _=>none)=some xs:=e
  show (match h[i]? with | some (.lst xs)=>atI xs k | _=>none)=atI xs k
  cases q:h[i]? with
  |none=>rw [q] at e;cases e
  |some o =>
   rw [q] at e
   cases o with
   |lst ys=>cases e;rfl
   |_=>cases e
 |_=>cases e
theorem seq_ls{h:Hh}{d:D}{xs:List D}(e:lsOf h d=some xs):seqOf h d=some xs:=by
 cases d with
 |lst ys=>exact e
 |scr ys=>exact e
 |ref i=>exact e
 |_=>cases e
theorem len_ls{h:Hh}{d:D}{xs:List D}(e:lsOf h d=some xs):lenD h d=some xs.length:=by
 have s:=seq_ls e
 cases d with
 |lst ys=>cases e;rfl
 |scr ys=>cases e;rfl
 |ref i=>show (seqOf h (.ref i)).map List.length=_;rw [s];rfl
 |_=>cases e
noncomputable def Pre(h h':Hh):Prop:=∀ (i:Nat) (o:O),h[i]?=some o→h'[i]?=some o
theorem Pre.app(h g:Hh):Pre h (h ++ g):=fun i o e=>by
 rw [List.getElem?_append_left (List.getElem?_eq_some_iff.mp e).1];exact e
theorem Pre.ls{h h':Hh}(p:Pre h h'){d:D}{xs:List D}(e:lsOf h d=some xs):lsOf h' d=some xs:=by
 cases d with
 |ref i =>
  have e:(match h[i]? with | some (.lst xs)=>some xs | _=>none)=some xs:=e
  show (match h'[i]? with | some (.lst xs)=>some xs | _=>none)=some xs
  cases q:h[i]? with
  |none=>rw [q] at e;cases e
  |some o=>rw [q] at e;rw [p i o q];exact e
 |_=>exact e
theorem get_new(h:Hh)(o:O):(h ++ [o])[h.length]?=some o:=by
 rw [List.getElem?_append_right (Nat.le_refl _)];simp
theorem set_new(h:Hh)(o u:O):(h ++ [o]).set h.length u=h ++ [u]:=by
 rw [List.set_append_right _ _ (Nat.le_refl _)];simp
theorem forL_map{τ:Type}{S:Src}{t:DG}{b:DS}{E:DEnds}(P:List τ→Sl→Hh→Prop){g:τ→D}{ys:List τ}{δ:Sl}{h:Hh}(h0:P [] δ h)(ok:∀ p δ h,P p δ h→S.ok h)
  (hs:∀ (p:List τ) (y:τ) (r:List τ) (δ:Sl) (h:Hh) (N:Sl→Hh→Prop),ys=p ++ y :: r→P p δ h→(∀ δ h,P (p ++ [y]) δ h→N δ h)→t (g y) δ h fun δ2 h2=>b { E with nx:=N,ct:=N,bk:=E.nx } δ2 h2)
  (hd:∀ δ h,P ys δ h→E.nx δ h):forL S t b E (ys.map g) δ h:=by
 have go:∀ (r p:List τ) δ h,ys=p ++ r→P p δ h→forL S t b E (r.map g) δ h:=by
  intro r
  induction r with
  |nil=>intro p δ h e q;rw [List.append_nil] at e;subst e;exact ⟨ok _ _ _ q,hd _ _ q⟩
  |cons y r ih =>
   intro p δ h e q
   exact ⟨ok _ _ _ q,hs p y r δ h _ e q fun δ3 h3 p3=>ih (p ++ [y]) δ3 h3 (by rw [e];simp) p3⟩
 exact go ys [] δ h rfl h0
theorem compL_map{τ:Type}{S:Src}{t:DG}{tf:DT}{te:DE}(P:List τ→List D→Sl→Hh→Prop){g:τ→D}{ys:List τ}{δ:Sl}{h:Hh}{Q:List D→Hh→Prop}(h0:P [] [] δ h)(ok:∀ p a δ h,P p a δ h→S.ok h)
  (hs:∀ (p:List τ) (y:τ) (r:List τ) (acc:List D) (δ:Sl) (h:Hh) (N:List D→Sl→Hh→Prop),ys=p ++ y :: r→P p acc δ h→(∀ a δ h,P (p ++ [y]) a δ h→N a δ h) →
   t (g y) δ h fun δ2 h2=>tf δ2 h2 fun b h3=>if b=true then te δ2 h3 fun z h4=>N (acc ++ [z]) δ2 h4 else N acc δ2 h3)
  (hd:∀ a δ h,P ys a δ h→Q a h):compL S t tf te (ys.map g) [] δ h Q:=by
 have go:∀ (r p:List τ) a δ h,ys=p ++ r→P p a δ h→compL S t tf te (r.map g) a δ h Q:=by
  intro r
  induction r with
  |nil=>intro p a δ h e q;rw [List.append_nil] at e;subst e;exact ⟨ok _ _ _ _ q,hd _ _ _ q⟩
  |cons y r ih =>
   intro p a δ h e q
   exact ⟨ok _ _ _ _ q,hs p y r a δ h (fun a δ h=>compL S t tf te (r.map g) a δ h Q) e q fun a3 δ3 h3 p3=>ih (p ++ [y]) a3 δ3 h3 (by rw [e];simp) p3⟩
 exact go ys [] [] δ h rfl h0
theorem comp1{τ:Type}{S:Src}{tf:DT}{te:DE}{g:τ→D}{ys:List τ}{h:Hh}{fr:Sl}{Q:List D→Hh→Prop}(c:τ→Bool)(v:τ→D)(ok:S.ok h)(o:Option D)
  (htf:∀ y ∈ ys,∀ K:Bool→Hh→Prop,K (c y) h→tf (some (g y) :: fr) h K) (hte:∀ y ∈ ys,c y=true→∀ K:DK,K (v y) h→te (some (g y) :: fr) h K)
  (hd:Q ((ys.filter c).map v) h):compL S (dName 0) tf te (ys.map g) [] (o :: fr) h Q:=by
 refine compL_map (fun p a δ h'=>h'=h∧(∃ o,δ=o :: fr)∧a=(p.filter c).map v) ⟨rfl,⟨o,rfl⟩,rfl⟩ (fun p a δ h' q=>by rw [q.1];exact ok) ?_ ?_
 ·rintro p y r acc δ h' N e ⟨rfl,⟨o,rfl⟩,rfl⟩ hN
  have hy:y ∈ ys:=by rw [e];simp
  refine htf y hy _ ?_
  cases hc:c y with
  |true =>
   refine iteT (hte y hy hc _ (hN _ _ _ ⟨rfl,⟨_,rfl⟩,?_⟩))
   simp [List.filter_append,hc]
  |false =>
   refine iteF (hN _ _ _ ⟨rfl,⟨_,rfl⟩,?_⟩)
   simp [List.filter_append,hc]
 ·rintro a δ h' ⟨rfl,_,rfl⟩
  exact hd
theorem comp1n{τ:Type}{S:Src}{te:DE}{g:τ→D}{ys:List τ}{h:Hh}{fr:Sl}{Q:List D→Hh→Prop}(v:τ→D)(ok:S.ok h)(o:Option D)
  (hte:∀ y ∈ ys,∀ K:DK,K (v y) h→te (some (g y) :: fr) h K) (hd:Q (ys.map v) h):compL S (dName 0) dNoIf te (ys.map g) [] (o :: fr) h Q :=
 comp1 (fun _=>true) v ok o (fun _ _ K k=>k) (fun y hy _=>hte y hy) ((show ys.filter (fun _=>true)=ys by simp).symm ▸ hd)
theorem rangeD_map(lo:Int):∀ n:Nat,rangeD lo n=(List.range n).map fun i=>D.int (lo + (i:Nat)):=by
 intro n
 apply List.ext_getElem?
 intro i
 rw [rangeD_get]
 by_cases h:i < n <;> simp [h]
theorem enumD_map{τ:Type}(lo:Int)(g:τ→D)(ys:List τ):enumD lo (ys.map g)=ys.zipIdx.map fun p=>.tup [.int (lo + (p.2:Nat)),g p.1]:=by
 apply List.ext_getElem?
 intro i
 rw [enumD_get]
 simp [List.getElem?_zipIdx]
 cases ys[i]? <;> simp
theorem isN_non:isNon .non=true:=rfl
theorem isN_bl(b:Bool):isNon (.bl b)=false:=rfl
theorem isN_int(b:Int):isNon (.int b)=false:=rfl
theorem isN_str(b:Str):isNon (.str b)=false:=rfl
theorem isN_tup(b:List D):isNon (.tup b)=false:=rfl
theorem isN_lst(b:List D):isNon (.lst b)=false:=rfl
theorem isN_ref(b:Nat):isNon (.ref b)=false:=rfl
theorem lsOf_lst(h:Hh)(xs:List D):lsOf h (.lst xs)=some xs:=rfl
theorem seqOf_lst(h:Hh)(xs:List D):seqOf h (.lst xs)=some xs:=rfl
theorem seqSrc_lst(h:Hh)(xs:List D):seqSrc h (.lst xs)=some ⟨xs,[]⟩:=rfl
theorem lenD_lst(h:Hh)(xs:List D):lenD h (.lst xs)=some xs.length:=rfl
theorem ixD_lst(h:Hh)(xs:List D)(i:Int):ixD h (.lst xs) (.int i)=atI xs i:=rfl
theorem trD_lst(h:Hh)(xs:List D):trD h (.lst xs)=some (!xs.isEmpty):=rfl
theorem lsOf_scr(h:Hh)(xs:List D):lsOf h (.scr xs)=some xs:=rfl
theorem seqOf_scr(h:Hh)(xs:List D):seqOf h (.scr xs)=some xs:=rfl
theorem seqSrc_scr(h:Hh)(xs:List D):seqSrc h (.scr xs)=some ⟨xs,[]⟩:=rfl
theorem lenD_scr(h:Hh)(xs:List D):lenD h (.scr xs)=some xs.length:=rfl
theorem ixD_scr(h:Hh)(xs:List D)(i:Int):ixD h (.scr xs) (.int i)=atI xs i:=rfl
theorem trD_scr(h:Hh)(xs:List D):trD h (.scr xs)=some (!xs.isEmpty):=rfl
theorem lsP_lst(h:Hh)(xs:List D):lsP h (.lst xs)=some xs:=rfl
theorem lsP_tup(h:Hh)(xs:List D):lsP h (.tup xs)=none:=rfl
theorem lsP_int(h:Hh)(x:Int):lsP h (.int x)=none:=rfl
theorem lsP_str(h:Hh)(x:Str):lsP h (.str x)=none:=rfl
theorem seqOf_tup(h:Hh)(xs:List D):seqOf h (.tup xs)=some xs:=rfl
theorem seqSrc_tup(h:Hh)(xs:List D):seqSrc h (.tup xs)=some ⟨xs,[]⟩:=rfl
theorem lenD_tup(h:Hh)(xs:List D):lenD h (.tup xs)=some xs.length:=rfl
theorem ixD_tup(h:Hh)(xs:List D)(i:Int):ixD h (.tup xs) (.int i)=atI xs i:=rfl
theorem trD_tup(h:Hh)(xs:List D):trD h (.tup xs)=some (!xs.isEmpty):=rfl
theorem trD_non(h:Hh):trD h .non=some false:=rfl
theorem trD_bl(h:Hh)(b:Bool):trD h (.bl b)=some b:=rfl
theorem trD_int(h:Hh)(i:Int):trD h (.int i)=some (i != 0):=rfl
theorem kindD_bl(h:Hh)(x:Bool):kindD h (.bl x)=some "bool":=rfl
theorem isK_bool_bool:isKind "bool" "bool" = true:=rfl
theorem lsOf_ref{h:Hh}{i:Nat}{xs:List D}(e:h[i]?=some (.lst xs)):lsOf h (.ref i)=some xs:=by show (match h[i]? with | some (.lst xs)=>some xs | _=>none)=_;rw [e]
theorem seqSrc_ref{h:Hh}{i:Nat}{xs:List D}(e:h[i]?=some (.lst xs)):seqSrc h (.ref i)=some ⟨xs,[(i,.lst xs)]⟩:=by show (match h[i]? with | some (.lst xs)=>some (Src.mk xs [(i,.lst xs)]) | _=>none)=_;rw [e]
theorem ixN_0(n:Nat):ixN (n + 1) 0=some 0:=by unfold ixN;rw [if_pos (by decide),if_pos (by omega)];rfl
theorem ixN_10:ixN 1 0=some 0:=rfl
theorem ix_ref0{h:Hh}{i:Nat}{d:D}{l:List D}(e:h[i]?=some (.lst (d :: l))):ixD h (.ref i) (.int 0)=some d:=by rw [ix_ls (lsOf_ref e)];exact atI_0 ..
theorem get_set{h:Hh}{i:Nat}{o u:O}(e:h[i]?=some o):(h.set i u)[i]?=some u:=List.getElem?_set_self (List.getElem?_eq_some_iff.mp e).1
theorem set_set{h:Hh}{i:Nat}{o u:O}:(h.set i o).set i u=h.set i u:=List.set_set ..
theorem st_get{h g:Hh}{k:Nat}{o x:O}(e:h[k]?=some x):((h.set k o) ++ g)[k]?=some o:=by
 have hk:=(List.getElem?_eq_some_iff.mp e).1
 rw [List.getElem?_append_left (by rw [List.length_set];exact hk)];exact List.getElem?_set_self hk
theorem st_set{h g:Hh}{k:Nat}{o u x:O}(e:h[k]?=some x):((h.set k o) ++ g).set k u=(h.set k u) ++ g:=by
 have hk:=(List.getElem?_eq_some_iff.mp e).1
 rw [List.set_append_left _ _ (by rw [List.length_set];exact hk),List.set_set]
theorem nw_get{h:Hh}{k:Nat}{o m:O}:((h.set k o) ++ [m])[h.length]?=some m:=by
 rw [List.getElem?_append_right (by rw [List.length_set];exact Nat.le_refl _)];simp
theorem nw_set{h:Hh}{k:Nat}{o m u:O}:((h.set k o) ++ [m]).set h.length u=(h.set k o) ++ [u]:=by
 rw [List.set_append_right _ _ (by rw [List.length_set];exact Nat.le_refl _)];simp
theorem set_id{h:Hh}{i:Nat}{o:O}(e:h[i]?=some o):h.set i o=h:=by
 apply List.ext_getElem?
 intro j
 by_cases z:i=j
 ·subst z;rw [List.getElem?_set_self (List.getElem?_eq_some_iff.mp e).1,e]
 ·rw [List.getElem?_set_ne z]
theorem range_split{n d:Nat}{p r:List Nat}(e:List.range n=p ++ d :: r):d=p.length∧d < n:=by
 have h9:p.length < n:=by
  have:p.length < (List.range n).length:=by rw [e];simp
  simpa using this
 have h8:(List.range n)[p.length]?=some d:=by rw [e];simp
 rw [List.getElem?_range h9] at h8
 cases h8;exact ⟨rfl,h9⟩
theorem Dr.state{h g:Hh}{Q:DK}{d:D}{k:Nat}{o x:O}(e:h[k]?=some x)(ho:nrO o=true)(hd:nrD d=true)(q:Q d (h.set k o)):Dr h Q d ((h.set k o) ++ g):=by
 refine ⟨h.set k o,g,d,rfl,by rw [List.length_set],fun i u hu=>?_,.nr hd,q⟩
 by_cases z:k=i
 ·subst z
  rw [List.getElem?_set_self (List.getElem?_eq_some_iff.mp e).1] at hu
  cases hu;exact .inr ho
 ·rw [List.getElem?_set_ne z] at hu;exact .inl hu
theorem seq_intro{f g:DS}{E:DEnds}{δ:Sl}{h:Hh}(k:∀ N:Sl→Hh→Prop,N=g E→f { E with nx:=N } δ h):dSeq f g E δ h:=k _ rfl
theorem beqN(a b:Nat):((a:Int) == (b:Int))=decide (a=b):=by rw [Bool.eq_iff_iff];simp;omega
theorem if_intro{t:DT}{a b:DS}{E:DEnds}{δ:Sl}{h:Hh}(k:∀ A B:Sl→Hh→Prop,A=a E→B=b E→t δ h fun c h1=>if c=true then A δ h1 else B δ h1):dIfS t a b E δ h:=k _ _ rfl rfl
theorem iteB{c:Bool}{A B:Prop}(h1:c=true→A)(h2:c=false→B):if c=true then A else B:=by
 cases c with
 |true=>exact iteT (h1 rfl)
 |false=>exact iteF (h2 rfl)
theorem mulS{i j:Int}(h:-(2 ^ 64) < i∧i < 2 ^ 64):IntMulOk i j:=.of_left (intBits_le_64 h.1 h.2)
theorem mulS'{i j:Int}(h:-(2 ^ 64) < j∧j < 2 ^ 64):IntMulOk i j:=.of_right (intBits_le_64 h.1 h.2)
end DL
namespace CM
open PySem L2 DL
theorem sk_step:PyData.strOk (Str.ofString "step")=true:=by decide +kernel
theorem sq_step_step:((Str.ofString "step") == (Str.ofString "step"))=true:=by decide +kernel
theorem sq_step_call:((Str.ofString "step") == (Str.ofString "call"))=false:=by decide +kernel
theorem sq_step_in:((Str.ofString "step") == (Str.ofString "in"))=false:=by decide +kernel
theorem sq_step_over:((Str.ofString "step") == (Str.ofString "over"))=false:=by decide +kernel
theorem sk_call:PyData.strOk (Str.ofString "call")=true:=by decide +kernel
theorem sq_call_step:((Str.ofString "call") == (Str.ofString "step"))=false:=by decide +kernel
theorem sq_call_call:((Str.ofString "call") == (Str.ofString "call"))=true:=by decide +kernel
theorem sq_call_in:((Str.ofString "call") == (Str.ofString "in"))=false:=by decide +kernel
theorem sq_call_over:((Str.ofString "call") == (Str.ofString "over"))=false:=by decide +kernel
theorem sk_in:PyData.strOk (Str.ofString "in")=true:=by decide +kernel
theorem sq_in_step:((Str.ofString "in") == (Str.ofString "step"))=false:=by decide +kernel
theorem sq_in_call:((Str.ofString "in") == (Str.ofString "call"))=false:=by decide +kernel
theorem sq_in_in:((Str.ofString "in") == (Str.ofString "in"))=true:=by decide +kernel
theorem sq_in_over:((Str.ofString "in") == (Str.ofString "over"))=false:=by decide +kernel
theorem sk_over:PyData.strOk (Str.ofString "over")=true:=by decide +kernel
theorem sq_over_step:((Str.ofString "over") == (Str.ofString "step"))=false:=by decide +kernel
theorem sq_over_call:((Str.ofString "over") == (Str.ofString "call"))=false:=by decide +kernel
theorem sq_over_in:((Str.ofString "over") == (Str.ofString "in"))=false:=by decide +kernel
theorem sq_over_over:((Str.ofString "over") == (Str.ofString "over"))=true:=by decide +kernel
end CM
namespace CM
open PySem L2 DL
inductive Kind where
 |step (t:List Nat) | call (g:Nat) (into back over:List Nat)
structure Edge where
 p:Nat
 q:Nat
 cost:Nat
 k:Kind
structure Fn where
 places:Nat
 facts:Nat
 edges:List Edge
noncomputable abbrev Chart:=List Fn
inductive Mv where | step | over | inn
 deriving DecidableEq
noncomputable abbrev nD(n:Nat):D:=.int (n:Int)
noncomputable def tD(t:List Nat):D:=.tup (t.map nD)
noncomputable def eD(e:Edge):D:=match e.k with
 |.step t=>.tup [.str "step",nD e.p,nD e.q,nD e.cost,tD t]
 |.call g i b o=>.tup [.str "call",nD e.p,nD e.q,nD e.cost,nD g,tD i,tD b,tD o]
theorem eD_1(h:Hh)(e:Edge):ixD h (eD e) (.int 1)=some (nD e.p):=by
 unfold eD;cases e.k <;> exact atI_1 ..
theorem eD_2(h:Hh)(e:Edge):ixD h (eD e) (.int 2)=some (nD e.q):=by
 unfold eD;cases e.k <;> exact atI_2 ..
theorem eD_3(h:Hh)(e:Edge):ixD h (eD e) (.int 3)=some (nD e.cost):=by
 unfold eD;cases e.k <;> exact atI_3 ..
noncomputable def tOk(t:List Nat)(n m:Nat):Prop:=t.length=n∧∀ x ∈ t,x < 2 ^ m
noncomputable def eOk(C:Chart)(F:Fn)(e:Edge):Prop:=e.p < F.places∧e.q < F.places∧1 ≤ e.cost∧e.cost ≤ 10 ^ 18∧match e.k with
 |.step t=>tOk t F.facts F.facts
 |.call g i b o=>∃ G,C[g]?=some G∧tOk i F.facts G.facts∧tOk b G.facts F.facts∧tOk o F.facts F.facts
structure WF(C:Chart):Prop where
 one:1 ≤ C.length
 six:C.length ≤ 6
 fn:∀ (f:Nat) (F:Fn),C[f]?=some F→1 ≤ F.places∧F.places ≤ 10∧1 ≤ F.facts∧F.facts ≤ 6∧F.edges.length ≤ 100∧∀ e ∈ F.edges,eOk C F e
noncomputable def ChD(h:Hh)(d:D)(C:Chart):Prop:=∃ fs,lsOf h d=some fs∧fs.length=C.length∧∀ (i:Nat) (F:Fn),C[i]?=some F→∃ e,fs[i]?=some (.tup [nD F.places,nD F.facts,e])∧lsOf h e=some (F.edges.map eD)
theorem ChD.fn{h:Hh}{d:D}{C:Chart}(c:ChD h d C){f:Nat}{F:Fn}(e:C[f]?=some F):∃ x,ixD h d (nD f)=some (.tup [nD F.places,nD F.facts,x])∧lsOf h x=some (F.edges.map eD):=by
 obtain ⟨fs,h1,h2,h3⟩:=c
 obtain ⟨x,a,b⟩:=h3 f F e
 exact ⟨x,by rw [ix_ls h1,atN];exact a,b⟩
noncomputable def fD(F:Fn):D:=.tup [nD F.places,nD F.facts,.lst (F.edges.map eD)]
noncomputable def cD(C:Chart):D:=.lst (C.map fD)
theorem ChD.of(h:Hh)(C:Chart):ChD h (cD C) C:=⟨C.map fD,rfl,by simp,fun i F e=>⟨.lst (F.edges.map eD),by rw [List.getElem?_map,e];rfl,rfl⟩⟩
theorem band1(x:Nat):Builtin.bitAnd (x:Int) 1=((x % 2:Nat):Int):=by
 unfold Builtin.bitAnd
 rw [decide_eq_true (show (0:Int) ≤ (x:Int) by omega),decide_eq_true (show (0:Int) ≤ 1 by decide)]
 show (((x:Int).toNat &&& (1:Int).toNat:Nat):Int)=_
 have e1:((x:Int).toNat)=x:=by omega
 have e2:((1:Int).toNat)=1:=rfl
 rw [e1,e2,Nat.and_one_is_mod]
theorem shr_nat(m d:Nat):(m:Int) / 2 ^ d=((m / 2 ^ d:Nat):Int):=by
 have e:(2:Int) ^ d=((2 ^ d:Nat):Int):=by simp
 rw [e];exact (Int.natCast_ediv m (2 ^ d)).symm
theorem bitI(m d:Nat):Builtin.bitAnd ((m:Int) / 2 ^ d) 1=if m.testBit d then 1 else 0:=by
 rw [shr_nat,band1,Nat.testBit_eq_decide_div_mod_eq]
 have:=Nat.mod_two_eq_zero_or_one (m / 2 ^ d)
 rcases this with h | h <;> simp [h]
theorem bitT(m d:Nat):(Builtin.bitAnd ((m:Int) / 2 ^ d) 1 != 0)=m.testBit d:=by
 rw [bitI];cases m.testBit d <;> rfl
theorem bitE(m d:Nat):(Builtin.bitAnd ((m:Int) / 2 ^ d) 1 == 1)=m.testBit d:=by
 rw [bitI];cases m.testBit d <;> rfl
theorem band_nat(a b:Nat):Builtin.bitAnd (a:Int) (b:Int)=((a &&& b:Nat):Int):=by
 unfold Builtin.bitAnd
 rw [decide_eq_true (show (0:Int) ≤ (a:Int) by omega),decide_eq_true (show (0:Int) ≤ (b:Int) by omega)]
 show (((a:Int).toNat &&& (b:Int).toNat:Nat):Int)=_
 simp
theorem bor_nat(a b:Nat):Builtin.bitOr (a:Int) (b:Int)=((a ||| b:Nat):Int):=by
 unfold Builtin.bitOr Builtin.bitAnd Builtin.bitNot
 rw [decide_eq_false (show ¬ (0:Int) ≤ -(a:Int) - 1 by omega),decide_eq_false (show ¬ (0:Int) ≤ -(b:Int) - 1 by omega)]
 dsimp only
 rw [show (-(-(a:Int) - 1) - 1).toNat=a by omega,show (-(-(b:Int) - 1) - 1).toNat=b by omega]
 omega
theorem shl1(k:Nat):(1:Int) * 2 ^ ((k:Nat):Int).toNat=((2 ^ k:Nat):Int):=by
 rw [Int.one_mul,Int.toNat_natCast];simp
theorem nrD_tD(t:List Nat):nrD (tD t)=true:=nrDs_map (fun _=>rfl) t
theorem nrD_eD(e:Edge):nrD (eD e)=true:=by
 unfold eD
 cases e.k with
 |step t=>show (true && (true && (true && (true && (nrD (tD t) && true)))))=true;rw [nrD_tD];rfl
 |call g i b o=>show (true && (true && (true && (true && (true && (nrD (tD i) && (nrD (tD b) && (nrD (tD o) && true))))))))=true;rw [nrD_tD,nrD_tD,nrD_tD];rfl
noncomputable def factsN(m:Nat):List Nat:=(List.range (Builtin.Int.intBits (m:Int))).filter fun d=>m.testBit d
theorem bits_lt{m n:Nat}(h:m < 2 ^ n):Builtin.Int.intBits (m:Int) ≤ n:=intBits_le_iff.mpr (by simpa using h)
theorem bit_hi{m e:Nat}(h:Builtin.Int.intBits (m:Int) ≤ e):m.testBit e=false:=by
 have:=intBits_le_iff.mp h
 exact Nat.testBit_lt_two_pow (by simpa using this)
theorem tOk.get{t:List Nat}{n m d:Nat}(h:tOk t n m)(hd:d < n):t[d]?=some (t.getD d 0)∧t.getD d 0 < 2 ^ m:=by
 obtain ⟨h1,h2⟩:=h
 have hl:d < t.length:=by omega
 rw [List.getD_eq_getElem?_getD,List.getElem?_eq_getElem hl]
 exact ⟨rfl,h2 _ (List.getElem_mem hl)⟩
theorem tD_ix(h:Hh){t:List Nat}{n m d:Nat}(ht:tOk t n m)(hd:d < n):ixD h (tD t) (nD d)=some (nD (t.getD d 0)):=by
 show atI (t.map nD) (d:Int)=_
 rw [atN,List.getElem?_map,(ht.get hd).1];rfl
theorem pow64{x m:Nat}(hx:x < 2 ^ m)(hm:m ≤ 6):x < 64:=Nat.lt_of_lt_of_le hx (Nat.pow_le_pow_right (n:=2) (by decide) hm)
end CM
namespace CM
open PySem L2 DL
noncomputable def Pd(h:Hh)(d:D)(p:PyData)(n:Nat):Prop:=IsP h d p∧p.canLay0=true∧p.depth ≤ n
noncomputable def Pds(h:Hh)(ds:List D)(ps:List PyData)(n:Nat):Prop:=IsPs h ds ps∧PyData.canLayAll0 ps=true∧PyData.depthAll ps ≤ n
theorem Pd.int{h:Hh}{n:Nat}(i:Int):Pd h (.int i) (.int i) n:=⟨.int i,rfl,Nat.zero_le _⟩
theorem Pd.str{h:Hh}{n:Nat}{x:Str}(e:PyData.strOk x=true):Pd h (.str x) (.str x) n:=⟨.str x,e,Nat.zero_le _⟩
theorem Pds.nil{h:Hh}{n:Nat}:Pds h [] [] n:=⟨.nil,rfl,Nat.zero_le _⟩
theorem Pds.cons{h:Hh}{n:Nat}{d:D}{p:PyData}{ds:List D}{ps:List PyData}(a:Pd h d p n)(b:Pds h ds ps n):Pds h (d :: ds) (p :: ps) n :=
 ⟨.cons a.1 b.1,by show (p.canLay0 && PyData.canLayAll0 ps)=true;rw [a.2.1,b.2.1];rfl,by show max p.depth (PyData.depthAll ps) ≤ n;exact Nat.max_le.mpr ⟨a.2.2,b.2.2⟩⟩
theorem Pd.tup{h:Hh}{n:Nat}{ds:List D}{ps:List PyData}(a:Pds h ds ps n):Pd h (.tup ds) (.tuple ps) (n + 1):=⟨.tup a.1,a.2.1,Nat.succ_le_succ a.2.2⟩
theorem Pd.lst{h:Hh}{n:Nat}{ds:List D}{ps:List PyData}(a:Pds h ds ps n):Pd h (.lst ds) (.list ps) (n + 1):=⟨.lst a.1,a.2.1,Nat.succ_le_succ a.2.2⟩
theorem Pds.map{τ:Type}{h:Hh}{n:Nat}{f:τ→D}{g:τ→PyData}:∀ {xs:List τ},(∀ x,Pd h (f x) (g x) n)→Pds h (xs.map f) (xs.map g) n
 |[],_=>.nil
 |x :: xs,k=>.cons (k x) (Pds.map k)
theorem Pd.shaped{h:Hh}{n:Nat}{d:D}{p:PyData}(a:Pd h d p n)(e:n ≤ 64):SeqAt.shaped p=true:=by
 unfold SeqAt.shaped
 rw [a.2.1,decide_eq_true (Nat.le_trans a.2.2 e)];rfl
theorem pEq_same{neg:Bool}{x y:D}{h:Hh}{Q:DK}{p:PyData}{n:Nat}(e:eqS x y=none)(a:Pd h x p n)(b:Pd h y p n)(hn:n ≤ 64)(q:Q (.bl (!neg)) h):pEq neg x y h Q:=by
 unfold pEq
 rw [e]
 refine ⟨p,p,a.1,b.1,a.shaped hn,b.shaped hn,?_⟩
 rw [SeqAt.eqv_refl p a.2.1]
 cases neg <;> exact q
noncomputable def tP(t:List Nat):PyData:=.tuple (t.map fun x:Nat=>.int (x:Int))
noncomputable def eP(e:Edge):PyData:=match e.k with
 |.step t=>.tuple [.str "step",.int e.p,.int e.q,.int e.cost,tP t]
 |.call g i b o=>.tuple [.str "call",.int e.p,.int e.q,.int e.cost,.int g,tP i,tP b,tP o]
theorem pd_t(h:Hh)(t:List Nat):Pd h (tD t) (tP t) 1:=Pd.tup (n:=0) (Pds.map fun x=>.int _)
theorem pd_e(h:Hh)(e:Edge):Pd h (eD e) (eP e) 2:=by
 unfold eD eP
 cases e.k with
 |step t=>exact .tup (.cons (.str sk_step) (.cons (.int _) (.cons (.int _) (.cons (.int _) (.cons (pd_t h t) .nil)))))
 |call g i b o=>exact .tup (.cons (.str sk_call) (.cons (.int _) (.cons (.int _) (.cons (.int _) (.cons (.int _) (.cons (pd_t h i) (.cons (pd_t h b) (.cons (pd_t h o) .nil))))))))
noncomputable def fP(F:Fn):PyData:=.tuple [.int F.places,.int F.facts,.list (F.edges.map eP)]
theorem pd_f(h:Hh)(F:Fn):Pd h (fD F) (fP F) 4:=.tup (.cons (.int _) (.cons (.int _) (.cons (.lst (Pds.map (pd_e h))) .nil)))
theorem pd_c(h:Hh)(C:Chart):Pd h (cD C) (.list (C.map fP)) 5:=.lst (Pds.map (pd_f h))
end CM
namespace L2
open PySem PySem.Spec PyProof.Rows
section
variable {X:Cx} {pins:List (Addr×Obj)} {σ:St} {H:Hp} {s:Shared}
theorem Inv.thaw{a:Addr}{o:Obj}{u:HO}(I:Inv X pins σ H s)(e:H a=some (.frz o u))(h0:∀ o u,X.H₀ a ≠ some (.frz o u)):Inv X pins σ (upd H a u) s:=by
 have ne:∀ b,H b ≠ some (.frz o u)→upd H a u b=H b:=fun b h=>upd_ne fun z=>h (by rw [z];exact e)
 have nn:∀ b,H b=none→upd H a u b=none:=fun b h=>by rw [ne b (by rw [h];exact fun z=>nomatch z)];exact h
 refine ⟨I.ok,I.os,I.bare,⟨I.base.keep,I.base.slot,fun b ob q n hx=>nn b (I.base.free b ob q n hx),I.base.there,fun b xs q=>?_,fun b ob v q=>?_,fun b ps q=>?_⟩,I.loc,I.cell,nn _ I.free,fun x c q=>nn _ (I.freeC x c q),fun p hp=>?_,fun b ob q=>?_,I.len⟩
 ·have:=I.base.tups b xs q
  rw [ne b (by rw [this];exact fun z=>nomatch z)];exact this
 ·have:=I.base.frzs b ob v q
  by_cases c:b=a
  ·rw [c] at q;exact absurd q (h0 _ _)
  ·rw [upd_ne c];exact this
 ·obtain ⟨m,hm⟩:=I.base.tbls b ps q
  exact ⟨m,by rw [ne b (by rw [hm];exact fun z=>nomatch z)];exact hm⟩
 ·obtain ⟨h1,h2,h3⟩:=I.pin p hp
  exact ⟨h1,nn _ h2,h3⟩
 ·have go:∀ b ob,H b=some ob→ObjOk X.prog X.w (upd H a u) s.heap b ob:=fun b ob q=>(I.hok b ob q).stay (fun _ _ _ z=>z) (fun c z=>by rw [ne c (by rw [z];exact fun y=>nomatch y)];exact z) fun c xs z=>by rw [ne c (by rw [z];exact fun y=>nomatch y)];exact z
  by_cases c:b=a
  ·subst c
   rw [upd_same] at q
   cases q
   exact (show ObjOk X.prog X.w (upd H b u) s.heap b (.frz o u) from go b _ e).2
  ·rw [upd_ne c] at q
   exact go b ob q
end
end L2
namespace L2
open PySem PySem.Spec PyProof.Rows
noncomputable def Itk(a:Addr)(o:Obj)(ks:List (List Key)):It :=
 ⟨fun i H=>(∃ us:List (List Key×V),H a=some (.frz o (.dT us))∧us.map (·.1)=ks)∧i < ks.length,fun i H x H'=>H'=H∧∃ b k,ks[i]?=some k∧x = .ref b∧H b=some (.tup (k.map kV)),fun i H=>(∃ us:List (List Key×V),H a=some (.frz o (.dT us))∧us.map (·.1)=ks)∧ks.length ≤ i⟩
noncomputable def iDictK(tl:TE):TI:=fun σ H R=>tl σ H fun x H1=>∃ a kvs,x = .ref a∧H1 a=some (.dT kvs)∧∀ o,R (Itk a o (kvs.map (·.1))) (upd H1 a (.frz o (.dT kvs)))
theorem turn_dictK{P:Program}{w:World}{K:PySem.W.Frag}{tg:Expr}(a it:Addr){o:Obj}{es:Array DictEntry}{ep:Nat}(ks:List (List Key))(hd:o.data = .dict es ep) :
  Turn P w K tg (Itk a o ks) [it] it (fun i h=>h.IsKeyIter it a i es.size ep) where
 mem:=(turn_dictT (P:=P) (w:=w) (K:=K) (tg:=tg) a it [] hd).mem
 obj:=(turn_dictT (P:=P) (w:=w) (K:=K) (tg:=tg) a it [] hd).obj
 keep:=(turn_dictT (P:=P) (w:=w) (K:=K) (tg:=tg) a it [] hd).keep
 item:=by
  intro X hP hw hK hc i pins s σ H E I hf st hg
  obtain ⟨⟨us,hH,rfl⟩,hi⟩:=hg
  refine thn ((turn_dictT (tg:=tg) a it us hd).item X hP hw hK hc i pins s σ H E I hf st ⟨hH,by simpa using hi⟩) fun r s1 z=>?_
  obtain ⟨u,hr,z⟩:=z
  refine ⟨u,hr,thn z fun _ s2 z=>?_⟩
  obtain ⟨x,H',I',rx,⟨e,b,p,h1,h2,h3⟩,st',fr⟩:=z
  exact ⟨x,H',I',rx,⟨e,b,p.1,by rw [List.getElem?_map,h1];rfl,h2,h3⟩,st',fr⟩
 done:=by
  intro X hP hw hK hc i pins s σ H E I hf st hg
  obtain ⟨⟨us,hH,rfl⟩,hi⟩:=hg
  exact (turn_dictT (tg:=tg) a it us hd).done X hP hw hK hc i pins s σ H E I hf st ⟨hH,by simpa using hi⟩
 self:=(turn_dictT (P:=P) (w:=w) (K:=K) (tg:=tg) a it [] hd).self
section
variable {X:Cx} {tg:Expr}
theorem pi_dictK{l:Expr}{tl:TE}(hl:PE X l tl):PI X tg l (iDictK tl):=by
 intro pins s σ H R I h
 refine thn (hl pins s σ H _ I h) fun v s1 zz0=>?_
 obtain ⟨x,H1,I1,r1,q1⟩:=zz0
 obtain ⟨a,kvs,e,hH,q⟩:=q1
 subst e
 cases r1
 obtain ⟨z,hd,xs,rel,o,es,ep,h1,h2,h3,h4,h5⟩:=(show ObjOk X.prog X.w H1 s1.heap a (.dT kvs) from I1.hok a _ hH)
 refine iter_keys hd h1 h2 h3 ?_
 have hne:∀ b ys,H1 b=some (.tup ys)→(upd H1 a (.frz o (.dT kvs))) b=some (.tup ys):=fun b ys eb=>by rw [upd_ne (ne_of eb hH (fun z=>nomatch z))];exact eb
 have I2:=I1.write (x:=a) (e:=a) (o:=.frz o (.dT kvs)) (t':=s1.toks) (h':=s1.heap.push { cls:=.type "dict_keyiterator",data:=.fields #[.ref a,.int 0 0,.int es.size 0,.int ep 0] }) (by rw [hH];exact True.intro) (.inl rfl) (fun b u _ q=>Heap.get?_push_of_some _ q) ⟨_,Heap.get?_push_of_some _ h1⟩
  ⟨Heap.get?_push_of_some _ h1,z,hd,xs,KT.keeps rel hne,o,es,ep,Heap.get?_push_of_some _ h1,h2,h3,h4,h5⟩
 refine ⟨s1.heap.objs.size,[s1.heap.objs.size],_,_,_,rfl,I2,turn_dictK a _ (kvs.map (·.1)) h3,⟨_,Heap.get?_push_size _ rfl,rfl,rfl⟩,fun b hb=>?_,q o⟩
 have e:b=s1.heap.objs.size:=by simpa using hb
 subst e
 have hne2:s1.heap.objs.size ≠ a:=Nat.ne_of_gt (Heap.lt_size h1)
 exact I1.fpOk (Nat.le_refl _) (by rw [upd_ne hne2];exact I1.hok.fresh (Nat.le_refl _))
end
end L2
namespace L2
open PySem PySem.Spec PyProof.Rows
section
variable {X:Cx}
theorem op_dIn(hu:X.A.units + 1 < cLine):OpR X (compareOp .In) (fun x y H Q=>∃ a o,y = .ref a∧DGet H a x o∧Q (.bl o.isSome) H):=by
 intro pins s σ H x y v u Q I rx ry h
 obtain ⟨a,o,rfl,g,q⟩:=h
 cases ry
 exact d_in hu I g rx fun s' I'=>⟨.bl _,H,I',rfl,q⟩
theorem op_dNin(hu:X.A.units + 1 < cLine):OpR X (compareOp .NotIn) (fun x y H Q=>∃ a o,y = .ref a∧DGet H a x o∧Q (.bl (!o.isSome)) H):=by
 intro pins s σ H x y v u Q I rx ry h
 obtain ⟨a,o,rfl,g,q⟩:=h
 cases ry
 exact d_notIn hu I g rx fun s' I'=>⟨.bl _,H,I',rfl,q⟩
end
end L2
namespace DL
open PySem PySem.Spec L2
noncomputable def kD:Key→D
 |.inl i=>.int i
 |.inr x=>.str x
noncomputable def keyD(k:List Key):D:=.tup (k.map kD)
noncomputable def valD(kvs:List (List Key×D))(k:List Key):Option D:=(kvs.find? fun kv=>decide (kv.1=k)).map (·.2)
noncomputable def putD(kvs:List (List Key×D))(k:List Key)(v:D):List (List Key×D) :=
 if (kvs.any fun kv=>decide (kv.1=k))=true then kvs.map (fun kv=>if kv.1=k then (kv.1,v) else kv) else kvs ++ [(k,v)]
section
variable {K:KP} {α:List Addr} {H:Hp} {h:Hh}
theorem kD_rel{k:Key}{v:V}(r:RelD K α H (kD k) v):v=kV k:=by
 cases k with
 |inl i=>cases r;rfl
 |inr x=>cases r;rfl
theorem kDs_rel:∀ {ks:List Key} {us:List V},RelDs K α H (ks.map kD) us→us=ks.map kV
 |[],_,.nil=>rfl
 |k :: ks,_,.cons r t=>by rw [kD_rel r,kDs_rel t];rfl
theorem kD_of(k:Key):RelD K α H (kD k) (kV k):=by
 cases k with
 |inl i=>exact .int i
 |inr x=>exact .str x
theorem kDs_of:∀ ks:List Key,RelDs K α H (ks.map kD) (ks.map kV)
 |[]=>.nil
 |k :: ks=>.cons (kD_of k) (kDs_of ks)
theorem key_at{ks:List Key}{v:V}(r:RelD K α H (keyD ks) v):∃ b,v = .ref b∧H b=some (.tup (ks.map kV)):=by
 unfold keyD at r
 cases r with
 |tup t r=>exact ⟨_,rfl,by rw [t.2.2,kDs_rel r]⟩
theorem key_of_H(R:HRel K α H h){ks:List Key}{b:Addr}(e:H b=some (.tup (ks.map kV))):RelD K α H (keyD ks) (.ref b):=by
 refine .tup ⟨fun z=>?_,fun z=>(R.dis b z).2.2 _ e,e⟩ (kDs_of ks)
 obtain ⟨i,hi,rfl⟩:=List.mem_iff_getElem.mp z
 have hl:i < h.length:=by rw [← R.len];exact hi
 obtain ⟨ob,hob⟩:∃ ob,h[i]?=some ob:=⟨_,List.getElem?_eq_getElem hl⟩
 obtain ⟨p,ep,r⟩:=R.obj i _ hob
 rw [List.getElem?_eq_getElem hi] at ep
 cases ep
 cases r with
 |lst q _=>rw [e] at q;cases q
 |@dT z _ _ q _=>rw [e] at q;cases z <;> cases q
 |dK q _=>rw [e] at q;cases q
 |ins _ q _=>rw [e] at q;cases q
theorem RelKV.val{κ:Type} [DecidableEq κ]{kvs:List (κ×D)}{us:List (κ×V)}(r:RelKV K α H kvs us)(k:κ):((kvs.find? fun kv=>decide (kv.1=k)).map (·.2)=none∧valV us k=none)∨∃ d v,(kvs.find? fun kv=>decide (kv.1=k)).map (·.2)=some d∧valV us k=some v∧RelD K α H d v:=by
 induction r with
 |nil=>exact .inl ⟨rfl,rfl⟩
 |@cons k' d u ds us hr t ih =>
  by_cases c:k'=k
  ·exact .inr ⟨d,u,by rw [List.find?_cons_of_pos (by simpa using c)];rfl,valV_pos (p:=(k',u)) c,hr⟩
  ·rw [List.find?_cons_of_neg (by simpa using c),valV_neg (p:=(k',u)) c]
   exact ih
theorem RelKV.put{kvs:List (List Key×D)}{us:List (List Key×V)}(r:RelKV K α H kvs us)(k:List Key){d:D}{v:V}(rd:RelD K α H d v):RelKV K α H (putD kvs k d) (putK us k v):=by
 have any:∀ {kvs:List (List Key×D)} {us:List (List Key×V)},RelKV K α H kvs us→(kvs.any fun kv=>decide (kv.1=k))=(us.any fun kv=>decide (kv.1=k)):=fun r=>by
  induction r with
  |nil=>rfl
  |cons _ _ ih=>rw [List.any_cons,List.any_cons,ih]
 unfold putD putK
 rw [any r]
 by_cases c:(us.any fun kv=>decide (kv.1=k))=true
 ·rw [if_pos c,if_pos c]
  clear c any
  induction r with
  |nil=>exact .nil
  |@cons k' d' u' ds us hr t ih =>
   rw [List.map_cons,List.map_cons]
   by_cases c:k'=k
   ·rw [if_pos c,if_pos c];exact .cons rd ih
   ·rw [if_neg c,if_neg c];exact .cons hr ih
 ·rw [if_neg c,if_neg c]
  clear c any
  induction r with
  |nil=>exact .cons rd .nil
  |cons hr t ih=>exact .cons hr ih
theorem HRel.rdT(R:HRel K α H h){i:Nat}{a:Addr}{z:Option Obj}{kvs:List (List Key×D)}(hp:α[i]?=some a)(e:h[i]?=some (.dT z kvs)):∃ us,Rd H a (.dT us)∧RelKV K α H kvs us:=by
 obtain ⟨p,us,e1,e2,e3⟩:=R.dT e
 rw [hp] at e1
 cases e1
 refine ⟨us,?_,e3⟩
 cases z with
 |none=>exact .inl e2
 |some o=>exact .inr ⟨o,e2⟩
end
noncomputable def getD(d k:D)(h:Hh)(Q:Option D→Prop):Prop:=match d with
 |.ref i=>match h[i]? with
  |some (.dT _ kvs)=>∃ ks,k=keyD ks∧Q (valD kvs ks)
  |_=>False
 |_=>False
theorem get_lift{K:KP}{α:List Addr}{H:Hp}{h:Hh}{d k:D}{v u:V}{Q:Option D→Prop}(R:HRel K α H h)(r1:RelD K α H d v)(r2:RelD K α H k u)(f:getD d k h Q) :
  ∃ a o od,v = .ref a∧IsD H a∧DGet H a u o∧Q od∧((od=none∧o=none)∨∃ x y,od=some x∧o=some y∧RelD K α H x y):=by
 unfold getD at f
 cases r1 with
 |@ref i a hp =>
  dsimp only at f
  cases q:h[i]? with
  |none=>rw [q] at f;exact f.elim
  |some ob =>
   rw [q] at f
   cases ob with
   |dT z kvs =>
    obtain ⟨ks,rfl,f⟩:=f
    obtain ⟨b,rfl,hb⟩:=key_at r2
    obtain ⟨us,rd,rel⟩:=R.rdT hp q
    refine ⟨a,valV us ks,valD kvs ks,rfl,.inr ⟨us,rd⟩,.inr ⟨us,ks,b,rd,rfl,hb,rfl⟩,f,?_⟩
    rcases rel.val ks with ⟨h1,h2⟩ | ⟨x,y,h1,h2,h3⟩
    ·exact .inl ⟨h1,h2⟩
    ·exact .inr ⟨x,y,h1,h2,h3⟩
   |_=>exact f.elim
 |_=>exact f.elim
noncomputable def pInD(neg:Bool):P2:=fun x y h Q=>getD y x h fun o=>Q (.bl (if neg then !o.isSome else o.isSome)) h
noncomputable def dDGet(fd fk:DE):DE:=fun δ h Q=>fd δ h fun d h1=>fk δ h1 fun k h2=>getD d k h2 fun o=>∃ v,o=some v∧Q v h2
noncomputable def isDD(d:D)(h:Hh):Prop:=∃ i z kvs,d = .ref i∧h[i]?=some (.dT z kvs)
noncomputable def dDGet1(fd fk:DE):DE:=fun δ h Q=>fd δ h fun d h1=>isDD d h1∧fk δ h1 fun k h2=>getD d k h2 fun o=>Q (o.getD .non) h2
noncomputable def dDGet2(fd fk fx:DE):DE:=fun δ h Q=>fd δ h fun d h1=>isDD d h1∧fk δ h1 fun k h2=>fx δ h2 fun x h3=>getD d k h3 fun o=>Q (o.getD x) h3
section
variable {X:Cx} {o i e f:Expr} {fd fk fx:DE} {pos apos cpos:Pos}
theorem ok_inD(hu:X.A.units + 64 < cLine):OpR X (compareOp .In) (r2 X.K (pInD false)):=OpR.imp (op_dIn (by omega)) fun x y H Q ⟨π,α,h,d,e,Q',R,r1,r2,f,k⟩=>by
 obtain ⟨a,o,od,rfl,_,g,q,rel⟩:=get_lift R r2 r1 f
 refine ⟨a,o,rfl,g,k _ h α H _ q (Ext.refl ..) R ?_⟩
 rcases rel with ⟨rfl,rfl⟩ | ⟨x,y,rfl,rfl,_⟩ <;> exact .bl _
theorem ok_ninD(hu:X.A.units + 64 < cLine):OpR X (compareOp .NotIn) (r2 X.K (pInD true)):=OpR.imp (op_dNin (by omega)) fun x y H Q ⟨π,α,h,d,e,Q',R,r1,r2,f,k⟩=>by
 obtain ⟨a,o,od,rfl,_,g,q,rel⟩:=get_lift R r2 r1 f
 refine ⟨a,o,rfl,g,k _ h α H _ q (Ext.refl ..) R ?_⟩
 rcases rel with ⟨rfl,rfl⟩ | ⟨x,y,rfl,rfl,_⟩ <;> exact .bl _
theorem se_dget(hu:X.A.units + 64 < cLine)(ho:SE X o fd)(hi:SE X i fk)(hs:NoSl i):SE X (.Subscript o i pos) (dDGet fd fk):=PE.imp (pe_dget (by omega) ho hi hs) fun σ H Q zz=>by
 obtain ⟨π,α,δ,h,Q',R,S,f,k⟩:=zz
 refine ⟨π,α,δ,h,_,R,S,f,fun d h1 α1 H1 v1 f1 e1 R1 q1=>?_⟩
 refine ⟨π,α1,δ,h1,_,R1,S.mono e1,f1,fun y h2 α2 H2 v2 f2 e2 R2 q2=>?_⟩
 obtain ⟨a,o,od,rfl,_,g,⟨v,rfl,q⟩,rel⟩:=get_lift R2 (q1.mono e2) q2 f2
 rcases rel with ⟨z,_⟩ | ⟨x,y,z,rfl,r⟩
 ·cases z
 ·cases z
  exact ⟨a,y,rfl,g,k _ h2 α2 H2 _ q (e1.trans e2) R2 r⟩
theorem isDD_at{K:KP}{α:List Addr}{H:Hp}{h:Hh}{d:D}{v:V}(R:HRel K α H h)(r:RelD K α H d v)(q:isDD d h):∃ a,v = .ref a∧IsD H a:=by
 obtain ⟨i,z,kvs,rfl,e⟩:=q
 cases r with
 |ref hp =>
  obtain ⟨us,rd,_⟩:=R.rdT hp e
  exact ⟨_,rfl,.inr ⟨us,rd⟩⟩
theorem se_dget1(hu:X.A.units + 64 < cLine)(ho:SE X o fd)(he:SE X e fk)(m:M1 X o "get" apos e cpos):SE X (.Call (.Attribute o "get" apos) [e] [] cpos) (dDGet1 fd fk):=PE.imp (pe_dget1 (by omega) ho he m) fun σ H Q zz=>by
 obtain ⟨π,α,δ,h,Q',R,S,f,k⟩:=zz
 refine ⟨π,α,δ,h,_,R,S,f,fun d h1 α1 H1 v1 f1 e1 R1 q1=>?_⟩
 obtain ⟨a,rfl,isd⟩:=isDD_at R1 q1 f1.1
 refine ⟨a,rfl,isd,π,α1,δ,h1,_,R1,S.mono e1,f1.2,fun y h2 α2 H2 v2 f2 e2 R2 q2=>?_⟩
 obtain ⟨a',o,od,ea,_,g,q,rel⟩:=get_lift R2 (q1.mono e2) q2 f2
 cases ea
 refine ⟨o,g,k _ h2 α2 H2 _ q (e1.trans e2) R2 ?_⟩
 rcases rel with ⟨rfl,rfl⟩ | ⟨x,y,rfl,rfl,r⟩
 ·exact .non
 ·exact r
theorem se_dget2(hu:X.A.units + 64 < cLine)(ho:SE X o fd)(he:SE X e fk)(hf:SE X f fx)(m:M2 X o "get" apos e f cpos):SE X (.Call (.Attribute o "get" apos) [e,f] [] cpos) (dDGet2 fd fk fx):=PE.imp (pe_dget2 (by omega) ho he hf m) fun σ H Q zz=>by
 obtain ⟨π,α,δ,h,Q',R,S,f,k⟩:=zz
 refine ⟨π,α,δ,h,_,R,S,f,fun d h1 α1 H1 v1 f1 e1 R1 q1=>?_⟩
 obtain ⟨a,rfl,isd⟩:=isDD_at R1 q1 f1.1
 refine ⟨a,rfl,isd,π,α1,δ,h1,_,R1,S.mono e1,f1.2,fun y h2 α2 H2 v2 f2 e2 R2 q2=>?_⟩
 refine ⟨π,α2,δ,h2,_,R2,S.mono (e1.trans e2),f2,fun x h3 α3 H3 v3 f3 e3 R3 q3=>?_⟩
 obtain ⟨a',o,od,ea,_,g,q,rel⟩:=get_lift R3 ((q1.mono e2).mono e3) (q2.mono e3) f3
 cases ea
 refine ⟨o,g,k _ h3 α3 H3 _ q (e1.trans (e2.trans e3)) R3 ?_⟩
 rcases rel with ⟨rfl,rfl⟩ | ⟨x,y,rfl,rfl,r⟩
 ·exact q3
 ·exact r
end
noncomputable def dDNew:DE:=fun _ h Q=>Q (.ref h.length) (h ++ [.dT none []])
noncomputable def putH(d k v:D)(h:Hh)(Q:Hh→Prop):Prop:=match d with
 |.ref i=>match h[i]? with
  |some (.dT none kvs)=>∃ ks,k=keyD ks∧kvs.length < 16777216∧Q (h.set i (.dT none (putD kvs ks v)))
  |_=>False
 |_=>False
noncomputable def dDPut(fd fk fv:DE):DS:=fun E δ h=>fv δ h fun v h1=>fd δ h1 fun d h2=>fk δ h2 fun k h3=>putH d k v h3 fun h4=>E.nx δ h4
section
variable {X:Cx} {o i value:Expr} {fd fk fv:DE} {pos pos':Pos}
theorem se_dnew:SE X (.Dict [] [] pos) dDNew:=PE.imp pe_dnewT fun σ H Q zz=>by
 obtain ⟨π,α,δ,h,Q',R,S,f,k⟩:=zz
 intro p hp
 have e:Ext α H (α ++ [p]) (upd H p (.dT [])):=Ext.newT hp
 refine k _ _ (α ++ [p]) _ _ f e (R.newT hp (.dT (z:=none) upd_same .nil)) (.ref ?_)
 rw [← R.len];simp
theorem put_lift{K:KP}{α:List Addr}{H:Hp}{h:Hh}{d k x:D}{v u y:V}{Q:Hh→Prop}(R:HRel K α H h)(r1:RelD K α H d v)(r2:RelD K α H k u)(r3:RelD K α H x y)(f:putH d k x h Q) :
  ∃ a H' h',v = .ref a∧DPut H a u y H'∧Q h'∧Ext α H α H'∧HRel K α H' h':=by
 unfold putH at f
 cases r1 with
 |@ref i a hp =>
  dsimp only at f
  cases q:h[i]? with
  |none=>rw [q] at f;exact f.elim
  |some ob =>
   rw [q] at f
   cases ob with
   |dT z kvs =>
    cases z with
    |some o=>exact f.elim
    |none =>
     obtain ⟨ks,rfl,hl,f⟩:=f
     obtain ⟨b,rfl,hb⟩:=key_at r2
     obtain ⟨p,us,e1,e2,e3⟩:=R.dT q
     rw [hp] at e1;cases e1
     have e2:H a=some (.dT us):=e2
     have e:Ext α H α (upd H a (.dT (putK us ks y))):=Ext.write (List.mem_of_getElem? hp)
     have ll:∀ {kvs:List (List Key×D)} {us:List (List Key×V)},RelKV K α H kvs us→kvs.length=us.length:=fun r=>by
      induction r with
      |nil=>rfl
      |cons _ _ ih=>rw [List.length_cons,List.length_cons,ih]
     exact ⟨a,_,_,rfl,DPut.t e2 hb (by rw [sizeLine_eq,← ll e3];exact hl),f,e,R.write hp (.dT (z:=none) upd_same ((e3.put ks r3).mono e))⟩
   |_=>exact f.elim
 |_=>exact f.elim
theorem s_dput(hu:X.A.units + 64 < cLine)(ho:SE X o fd)(hi:SE X i fk)(hv:SE X value fv)(hs:swapsWith value (some (.Subscript o i pos')) pos.line X.env=pure false:=by rfl) :
  SS X (.Assign [.Subscript o i pos'] value pos) (dDPut fd fk fv):=PS.imp (ps_dput (by omega) ho hi hv hs) fun F σ H zz=>by
 obtain ⟨π,α,δ,h,E,R,S,f,k⟩:=zz
 refine ⟨π,α,δ,h,_,R,S,f,fun x h1 α1 H1 v1 f1 e1 R1 q1=>?_⟩
 refine ⟨π,α1,δ,h1,_,R1,S.mono e1,f1,fun d h2 α2 H2 v2 f2 e2 R2 q2=>?_⟩
 refine ⟨π,α2,δ,h2,_,R2,S.mono (e1.trans e2),f2,fun y h3 α3 H3 v3 f3 e3 R3 q3=>?_⟩
 obtain ⟨a,H',h',rfl,g,q,e4,R4⟩:=put_lift R3 (q2.mono e3) q3 ((q1.mono e2).mono e3) f3
 have e:=e1.trans (e2.trans e3)
 exact ⟨a,H',rfl,g,k.nx δ h' α3 H' σ q (e.trans e4) R4 ((S.mono e).mono e4)⟩
end
noncomputable def dIDict(f:DE):DI:=fun δ h Q=>f δ h fun d h1=>match d with
 |.ref i=>match h1[i]? with
  |some (.dT none kvs)=>∀ o,Q ⟨kvs.map fun kv=>keyD kv.1,[(i,.dT (some o) kvs)]⟩ (h1.set i (.dT (some o) kvs))
  |_=>False
 |_=>False
theorem RelKV.keys{K:KP}{α:List Addr}{H:Hp}{κ:Type}{kvs:List (κ×D)}{us:List (κ×V)}(r:RelKV K α H kvs us):us.map (·.1)=kvs.map (·.1):=by
 induction r with
 |nil=>rfl
 |cons _ _ ih=>rw [List.map_cons,List.map_cons,ih]
theorem it_dict{K:PySem.W.Frag}{π α:List Addr}{H:Hp}{i:Nat}{a:Addr}{o:Obj}{kvs:List (List Key×D)}(hp:α[i]?=some a):ItA K π α H (Itk a o (kvs.map (·.1))) ⟨kvs.map fun kv=>keyD kv.1,[(i,.dT (some o) kvs)]⟩:=fun π' sub=>by
 refine ⟨fun α _=>α[i]?=some a,⟨fun α H α' H' st e=>e.get st,fun α H H' D st _ _=>st,fun α H h j d R st ok hj=>?_,fun α H h R st ok=>?_⟩,hp⟩
 ·have hh:h[i]?=some (.dT (some o) kvs):=ok (i,.dT (some o) kvs) List.mem_cons_self
  obtain ⟨p,us,e1,e2,e3⟩:=R.dT hh
  rw [st] at e1;cases e1
  have hj:(kvs.map fun kv=>keyD kv.1)[j]?=some d:=hj
  rw [List.getElem?_map] at hj
  cases q:kvs[j]? with
  |none=>rw [q] at hj;cases hj
  |some kv =>
   rw [q] at hj;cases hj
   refine ⟨⟨⟨us,e2,e3.keys⟩,by rw [List.length_map];exact (List.getElem?_eq_some_iff.mp q).1⟩,fun x H' y=>?_⟩
   obtain ⟨rfl,b,k,h1,rfl,h3⟩:=y
   rw [List.getElem?_map,q] at h1
   cases h1
   exact ⟨Ext.refl ..,R,key_of_H R h3⟩
 ·have hh:h[i]?=some (.dT (some o) kvs):=ok (i,.dT (some o) kvs) List.mem_cons_self
  obtain ⟨p,us,e1,e2,e3⟩:=R.dT hh
  rw [st] at e1;cases e1
  exact ⟨⟨us,e2,e3.keys⟩,by rw [List.length_map];show kvs.length ≤ (kvs.map fun kv=>keyD kv.1).length;rw [List.length_map];exact Nat.le_refl _⟩
section
variable {X:Cx} {tg:Expr}
theorem si_dict{l:Expr}{f:DE}(hl:SE X l f):SI X tg l (dIDict f):=PI.imp (pi_dictK hl) fun σ H Q zz0=>by
 obtain ⟨π,α,δ,h,Q',R,S,f,k⟩:=zz0
 refine ⟨π,α,δ,h,_,R,S,f,fun d h1 α1 H1 v1 f1 e1 R1 q1=>?_⟩
 cases q1 with
 |@ref i a hp =>
  dsimp only at f1
  cases q:h1[i]? with
  |none=>rw [q] at f1;exact f1.elim
  |some ob =>
   rw [q] at f1
   cases ob with
   |dT z kvs =>
    cases z with
    |some o=>exact f1.elim
    |none =>
     obtain ⟨p,us,e2,e3,e4⟩:=R1.dT q
     rw [hp] at e2;cases e2
     have e3:H1 a=some (.dT us):=e3
     refine ⟨a,us,rfl,e3,fun o=>?_⟩
     have e:Ext α1 H1 α1 (upd H1 a (.frz o (.dT us))):=Ext.write (List.mem_of_getElem? hp)
     rw [e4.keys]
     refine k _ _ α1 _ _ (f1 o) (e1.trans e) (R1.write hp (.dT (z:=some o) upd_same (e4.mono e))) (it_dict hp) fun p hp'=>?_
     rw [List.mem_singleton.mp hp',List.getElem?_set_self (List.getElem?_eq_some_iff.mp q).1]
   |_=>exact f1.elim
 |_=>exact f1.elim
end
noncomputable def thaw(h0:Hh)(h:Hh)(Q:Hh→Prop):Prop:=∃ i o kvs kvs0,h0[i]?=some (.dT none kvs0)∧h[i]?=some (.dT (some o) kvs)∧Q (h.set i (.dT none kvs))
noncomputable def thE(h0:Hh)(E:DEnds):DEnds:={ nx:=fun δ h=>thaw h0 h fun h'=>E.nx δ h',rt:=fun d h=>thaw h0 h fun h'=>E.rt d h',bk:=fun δ h=>thaw h0 h fun h'=>E.bk δ h',ct:=fun δ h=>thaw h0 h fun h'=>E.ct δ h',ex:=fun _ _ _=>False }
noncomputable def thH(H:Hp)(H':Hp)(Q:Hp→Prop):Prop:=∃ a o u us,H' a=some (.frz o u)∧H a=some (.dT us)∧Q (upd H' a u)
theorem thaw_lift{K:KP}{α α':List Addr}{H H':Hp}{h h':Hh}{Q:Hh→Prop}{Q':Hp→Prop}(R:HRel K α H h)(e:Ext α H α' H')(R':HRel K α' H' h')(f:thaw h h' Q)(k:∀ h2 H2,Q h2→Ext α' H' α' H2→HRel K α' H2 h2→Q' H2):thH H H' Q':=by
 obtain ⟨i,o,kvs,kvs0,e0,e1,q⟩:=f
 obtain ⟨a,us0,a1,a2,_⟩:=R.dT e0
 obtain ⟨a',us,b1,b2,b3⟩:=R'.dT e1
 rw [e.get a1] at b1;cases b1
 have x:Ext α' H' α' (upd H' a (.dT us)):=Ext.write (List.mem_of_getElem? (e.get a1))
 exact ⟨a,o,.dT us,us0,b2,a2,k _ _ q x (R'.write (e.get a1) (.dT (z:=none) upd_same (b3.mono x)))⟩
theorem thH.thaw{X:Cx}{pins:List (Addr×Obj)}{σ σ':L2.St}{H H':Hp}{s s':Shared}{Q:Hp→Prop}(I:Inv X pins σ H s)(I':Inv X pins σ' H' s')(f:thH H H' Q):∃ H2,Inv X pins σ' H2 s'∧Q H2:=by
 obtain ⟨a,o,u,us,h1,h2,q⟩:=f
 refine ⟨_,I'.thaw h1 fun o' u' y=>?_,q⟩
 have:=I.base.frzs a o' u' y
 rw [h2] at this;cases this
end DL
namespace L2
open PySem PySem.Spec PyProof.Rows
section
variable {prog:Program} {w:World} {A:Around} {E:Value→Shared→Prop} {s:Shared}
theorem call_items{d:Addr}{Q:Value→Shared→Prop}(hd:(d == sysModules)=false)(hT:s.TypeIs (.ref d) "dict")(hQ:Q (.ref s.heap.objs.size) { s with heap:=s.heap.push { cls:=.type "dict_items",data:=.fields #[.ref d] } }) :
  wpAny (model prog w) A (call (.builtin "dict.items") [.ref d]) Q E s:=by
 refine wpAny_call_entry F.slot_dict_items hT F.entry_dict_items ?_ (F.args_dict_items_1 _)
 unfold Builtin.«dict.items»
 refine wpAny_bind ?_
 unfold Builtin.Dict.noArgs
 refine wpAny_bind (wpAny_notOrdered_dict hT ?_)
 show wpAny _ _ (pure d) _ _ s
 refine wpAny_pure ?_
 show wpAny _ _ (Builtin.Dict.showsAll d >>= _) _ _ s
 unfold Builtin.Dict.showsAll
 rw [if_neg (by rw [hd];exact Bool.false_ne_true)]
 refine wpAny_bind (wpAny_pure ?_)
 exact wpAny_bind (wpAny_newObj_type (wpAny_pure ⟨_,rfl,hQ⟩))
theorem iter_items{v d:Addr}{o:Obj}{es:Array DictEntry}{ep:Nat}{Q:Value→Shared→Prop}(hv:s.heap.IsItemsView v d)(ho:s.heap.get? d=some o)(hdat:o.data = .dict es ep)
  (hQ:Q (.ref s.heap.objs.size) { s with heap:=s.heap.push { cls:=.type "dict_itemiterator",data:=.fields #[.none,.bool false,.ref d,.int 0 0,.int es.size 0,.int ep 0,.none,.none] } }) :
  wpAny (model prog w) A (pyIter (.ref v)) Q E s:=by
 obtain ⟨ov,hov,hcv,hdv⟩:=id hv
 refine wpAny_pyIter_slot hv.typeIs F.slot_dict_items_iter (wpAny_call_entry F.slot_dict_items_iter hv.typeIs F.entry_dict_items_iter ?_ (F.args_dict_items_iter_1 _))
 unfold Builtin.«dict_items.__iter__»
 refine wpAny_bind (wpAny_pure ?_)
 refine wpAny_bind ?_
 unfold Builtin.Dict_items.dictOf
 refine wpAny_bind (wpAny_field hov hdv (x:=.ref d) rfl (wpAny_pure ?_))
 refine wpAny_bind ?_
 unfold Builtin.Dict_items.newIterator
 refine wpAny_bind (wpAny_dictEntries ho hdat ?_)
 refine wpAny_bind (wpAny_dictEpoch ho hdat ?_)
 have hown:Builtin.Dict_items.ownsTuple "dict_itemiterator" = true:=by decide
 simp only [hown,if_true]
 refine wpAny_newObj_type (wpAny_pure ⟨_,rfl,"dict_itemiterator",_,⟨_,Heap.get?_push_size _ rfl,rfl⟩,F.slot_dict_itemiterator_next.lookup,?_⟩)
  (by simp only [sizeOk,Builtin.Dict_items.ownedTupleFields,List.size_toArray,List.length_append,List.length_cons,List.length_nil,sizeLine_eq];omega)
 simpa [rawInt,Builtin.Dict_items.ownedTupleFields] using hQ
theorem next_items_item{it d:Addr}{i ep:Nat}{od:Obj}{es:Array DictEntry}{ok ov:Value}{Q:Option Value→Shared→Prop}(hit:IsItemIter s.heap it d i es.size ep ok ov)(hod:s.heap.get? d=some od)(hdd:od.data = .dict es ep)(hlt:i < es.size)
  (hQ:∀ h',IsItemIterOut h' it d (i + 1) es.size ep es[i].key es[i].val s.heap.objs.size→h'.get? s.heap.objs.size=some { cls:=.type "tuple",data:=.seq #[es[i].key,es[i].val] }→h'.objs.size=s.heap.objs.size + 1 →
   (∀ b o,b ≠ it→s.heap.get? b=some o→h'.get? b=some o)→Q (some (.ref s.heap.objs.size)) { s with heap:=h' }):wpAny (model prog w) A (pyNext (.ref it)) Q E s:=by
 obtain ⟨hp,g,dr,tk,os⟩:=s
 have hT:Shared.TypeIs ⟨hp,g,dr,tk,os⟩ (.ref it) "dict_itemiterator":=⟨_,hit,rfl⟩
 unfold pyNext
 refine wpAny_bind (wpAny_attempt (wpAny_callSpecial?_slot (name:=Str.ofString "__next__") hT F.slot_dict_itemiterator_next (wpAny_call_entry F.slot_dict_itemiterator_next hT F.entry_dict_itemiterator_next ?_ (F.args_dict_itemiterator_next_1 _))))
 refine wpAny_bind (wpAny_pure ?_)
 refine wpAny_bind ?_
 refine wpAny_bind ?_
 first | refine wpAny_bind (wpAny_typeNameOfWhole_itemiter hT (wpAny_pure ?_)) | refine wpAny_bind (wpAny_typeNameOf_itemiter hT (wpAny_pure ?_))
 refine wpAny_bind (wpAny_fieldsOf hit rfl ?_)
 have hown:Builtin.Dict_items.ownsTuple "dict_itemiterator" = true:=by decide
 simp only [hown,if_true]
 show wpAny _ _ (if (Value.ref d == Value.none)=true then _ else _) _ _ _
 rw [if_neg (show ¬ ((Value.ref d == Value.none)=true) from Bool.false_ne_true)]
 refine wpAny_bind (wpAny_pure ?_)
 refine wpAny_bind (wpAny_dictEntries hod hdd ?_)
 rw [if_neg (by simp)]
 refine wpAny_bind (wpAny_pure ?_)
 refine wpAny_bind (wpAny_dictEpoch hod hdd ?_)
 rw [if_neg (by simp)]
 refine wpAny_pure ?_
 simp only [show ¬ ((i:Int) < 0) from by omega,if_false,Int.toNat_natCast,Array.getElem?_eq_getElem hlt]
 refine wpAny_bind ?_
 first | refine wpAny_bind (wpAny_typeNameOfWhole_itemiter hT (wpAny_pure ?_)) | refine wpAny_bind (wpAny_typeNameOf_itemiter hT (wpAny_pure ?_))
 refine wpAny_bind (wpAny_isOneOf_itemiter hT ?_)
 show wpAny _ _ (setField (.ref it) 3 (rawInt ((i:Int) + 1)) >>= _) _ _ ⟨hp,g,dr,tk,os⟩
 refine wpAny_bind (wpAny_setField_rec hit (by simp) fun h₁ he₁ hs₁=>?_)
 replace hs₁:Heap.SameBut it hp h₁:=hs₁
 replace he₁:IsItemIter h₁ it d (i + 1) es.size ep ok ov:=by
  have e:((i + 1:Nat):Int)=(i:Int) + 1:=by omega
  unfold IsItemIter;rw [e];simpa [rawInt] using he₁
 have hT₁:Shared.TypeIs ⟨h₁,g,dr,tk,os⟩ (.ref it) "dict_itemiterator":=⟨_,he₁,rfl⟩
 refine wpAny_bind (wpAny_holding ?_)
 refine wpAny_bind (wpAny_isOneOf_itemiter hT₁ ?_)
 refine wpAny_bind (wpAny_isOneOf_itemiter hT₁ ?_)
 show wpAny _ _ (Builtin.Dict_items.pairFromOwner (.ref it) 6 es[i].key es[i].val) _ _ ⟨h₁,g,dr,tk,os⟩
 unfold Builtin.Dict_items.pairFromOwner
 refine wpAny_bind (wpAny_newTuple ?_)
 have he₂:IsItemIter (h₁.push { cls:=.type "tuple",data:=.seq #[es[i].key,es[i].val] }) it d (i + 1) es.size ep ok ov:=Heap.get?_push_of_some _ he₁
 generalize hh₂:h₁.push { cls:=.type "tuple",data:=.seq #[es[i].key,es[i].val] }=h₂ at he₂
 have hz₁:h₁.objs.size=hp.objs.size:=hs₁.1
 have hil:it < hp.objs.size:=Heap.lt_size hit
 have ht₂:h₂.get? hp.objs.size=some { cls:=.type "tuple",data:=.seq #[es[i].key,es[i].val] }:=by rw [← hh₂,← hz₁];exact Heap.get?_push_size _ rfl
 have hz₂:h₂.objs.size=hp.objs.size + 1:=by rw [← hh₂,Heap.size_push,hz₁]
 have hk₂:∀ b o,b ≠ it→hp.get? b=some o→h₂.get? b=some o:=fun b o hb e=>by rw [← hh₂];exact Heap.get?_push_of_some _ (hs₁.extBut b o hb e)
 show wpAny _ _ (Builtin.Dict_items.ownedTupleIsFree (.ref it) >>= _) _ _ ⟨h₂,g,dr,tk,os⟩
 rw [hz₁]
 clear hh₂ he₁ hs₁ hT₁ hz₁ h₁
 refine wpAny_bind ?_
 unfold Builtin.Dict_items.ownedTupleIsFree
 refine wpAny_bind (wpAny_field he₂ rfl (x:=.none) rfl (wpAny_pure ?_))
 simp only [if_true]
 refine wpAny_bind (wpAny_field he₂ rfl (x:=ok) rfl ?_)
 refine wpAny_bind (wpAny_field he₂ rfl (x:=ov) rfl ?_)
 refine wpAny_bind (wpAny_setField_rec he₂ (by simp) fun h₃ he₃ hs₃=>?_)
 replace hs₃:Heap.SameBut it h₂ h₃:=hs₃
 replace he₃:IsItemIter h₃ it d (i + 1) es.size ep es[i].key ov:=he₃
 refine wpAny_bind (wpAny_setField_rec he₃ (by simp) fun h₄ he₄ hs₄=>?_)
 replace hs₄:Heap.SameBut it h₃ h₄:=hs₄
 replace he₄:IsItemIter h₄ it d (i + 1) es.size ep es[i].key es[i].val:=he₄
 refine wpAny_bind (wpAny_setField_rec he₄ (by simp) fun h₅ he₅ hs₅=>?_)
 replace hs₅:Heap.SameBut it h₄ h₅:=hs₅
 replace he₅:IsItemIterOut h₅ it d (i + 1) es.size ep es[i].key es[i].val hp.objs.size:=he₅
 refine wpAny_bind (wpAny_setField_rec he₅ (by simp) fun h₆ he₆ hs₆=>?_)
 replace hs₆:Heap.SameBut it h₅ h₆:=hs₆
 replace he₆:IsItemIterOut h₆ it d (i + 1) es.size ep es[i].key es[i].val hp.objs.size:=he₆
 refine wpAny_bind (wpAny_letGo (wpAny_pure (wpAny_pure ⟨_,rfl,wpAny_pure (hQ h₆ he₆ ?_ ?_ ?_)⟩)))
 ·exact hs₆.extBut _ _ (Nat.ne_of_gt hil) (hs₅.extBut _ _ (Nat.ne_of_gt hil) (hs₄.extBut _ _ (Nat.ne_of_gt hil) (hs₃.extBut _ _ (Nat.ne_of_gt hil) ht₂)))
 ·show h₆.objs.size=hp.objs.size + 1
  rw [hs₆.1,hs₅.1,hs₄.1,hs₃.1,hz₂]
 ·exact fun b o hb e=>hs₆.extBut b o hb (hs₅.extBut b o hb (hs₄.extBut b o hb (hs₃.extBut b o hb (hk₂ b o hb e))))
theorem next_items_end{it d:Addr}{i ep:Nat}{od:Obj}{es:Array DictEntry}{ok ov:Value}{Q:Option Value→Shared→Prop}(hh:A.handled=none)(hit:IsItemIter s.heap it d i es.size ep ok ov)(hod:s.heap.get? d=some od)(hdd:od.data = .dict es ep)(hge:es.size ≤ i)
  (hQ:∀ h',Heap.ExtBut it s.heap h'→Q none { s with heap:=h' }):wpAny (model prog w) A (pyNext (.ref it)) Q E s:=by
 have hT:s.TypeIs (.ref it) "dict_itemiterator":=⟨_,hit,rfl⟩
 unfold pyNext
 refine wpAny_bind (wpAny_attempt (wpAny_callSpecial?_slot (name:=Str.ofString "__next__") hT F.slot_dict_itemiterator_next (wpAny_call_entry F.slot_dict_itemiterator_next hT F.entry_dict_itemiterator_next ?_ (F.args_dict_itemiterator_next_1 _))))
 refine wpAny_bind (wpAny_pure ?_)
 refine wpAny_bind ?_
 refine wpAny_bind ?_
 first | refine wpAny_bind (wpAny_typeNameOfWhole_itemiter hT (wpAny_pure ?_)) | refine wpAny_bind (wpAny_typeNameOf_itemiter hT (wpAny_pure ?_))
 refine wpAny_bind (wpAny_fieldsOf hit rfl ?_)
 have hown:Builtin.Dict_items.ownsTuple "dict_itemiterator" = true:=by decide
 simp only [hown,if_true]
 show wpAny _ _ (if (Value.ref d == Value.none)=true then _ else _) _ _ s
 rw [if_neg (show ¬ ((Value.ref d == Value.none)=true) from Bool.false_ne_true)]
 refine wpAny_bind (wpAny_pure ?_)
 refine wpAny_bind (wpAny_dictEntries hod hdd ?_)
 rw [if_neg (by simp)]
 refine wpAny_bind (wpAny_pure ?_)
 refine wpAny_bind (wpAny_dictEpoch hod hdd ?_)
 rw [if_neg (by simp)]
 refine wpAny_pure ?_
 simp only [show ¬ ((i:Int) < 0) from by omega,if_false,Int.toNat_natCast,Array.getElem?_eq_none hge]
 refine wpAny_bind ?_
 first | refine wpAny_bind (wpAny_typeNameOfWhole_itemiter hT (wpAny_pure ?_)) | refine wpAny_bind (wpAny_typeNameOf_itemiter hT (wpAny_pure ?_))
 show wpAny _ _ (setField (.ref it) 2 .none >>= _) _ _ s
 refine wpAny_bind (wpAny_setField hit rfl (by simp) ?_)
 show wpAny _ _ (newExc (.type "StopIteration") [] >>= _) _ _ _
 refine wpAny_bind ?_
 simp only [newExc,newTuple]
 refine wpAny_bind (wpAny_newObj_type ?_ (by size_fits))
 refine wpAny_bind (m:=firstArgMember _ _) (wpAny_of_eq (a:=Value.none) (by first | rfl | (simp only [firstArgMember];rfl)) ?_)
 refine wpAny_newObj_type ?_ (by size_fits)
 simp only [raiseNew]
 refine wpAny_bind (wpAny_handled ?_)
 rw [show A.in1.handled=none from hh]
 refine wpAny_bind (wpAny_pure (wpAny_throw ?_))
 refine wpAny_bind (wpAny_isInstance (T:= "StopIteration") (b:=true) ⟨_,Heap.get?_push_size _ rfl,rfl⟩ isSubtype_stop ?_)
 exact wpAny_pure (hQ _ (((Heap.SameBut.update ..).extBut.push _).push _))
end
end L2
namespace L2
open PySem PySem.Spec PyProof.Rows
noncomputable def Iti(a:Addr)(o:Obj)(ks:List (List Key)):It :=
 ⟨(Itk a o ks).go,fun i H x H'=>∃ T b us p,x = .ref T∧H T=none∧H'=upd H T (.tup [.ref b,p.2])∧H a=some (.frz o (.dT us))∧us[i]?=some p∧H b=some (.tup (p.1.map kV)),(Itk a o ks).stop⟩
theorem pair_at{α β:Type}{R:α→β→Prop}{xs:List α}{ys:List β}(p:Paired R xs ys):∀ {i:Nat} {y:β},ys[i]?=some y→∃ x,xs[i]?=some x∧R x y:=by
 induction p with
 |nil=>intro i y e;simp at e
 |cons r _ ih =>
  intro i y e
  cases i with
  |zero=>simp at e;subst e;exact ⟨_,rfl,r⟩
  |succ i =>
   obtain ⟨x,h1,h2⟩:=ih (i:=i) (y:=y) (by simpa using e)
   exact ⟨x,by simpa using h1,h2⟩
theorem frz_dT2{P:Program}{w:World}{H:Hp}{h:Heap}{a:Addr}{o:Obj}{es:Array DictEntry}{ep:Nat}{kvs:List (List Key×V)}(hd:o.data = .dict es ep)(ok:HOk P w H h)(e:H a=some (.frz o (.dT kvs))) :
  h.get? a=some o∧es.size=kvs.length∧∀ (i:Nat) (hi:i < es.size),∃ b p,kvs[i]?=some p∧es[i].key = .ref b∧H b=some (.tup (p.1.map kV))∧RelV p.2 es[i].val:=by
 obtain ⟨ho,z,y,xs,rel,o',es',ep',h1,h2,h3,h4,h5⟩:=(show ObjOk P w H h a (.frz o (.dT kvs)) from ok a _ e)
 rw [ho] at h1
 cases h1
 rw [hd] at h3
 cases h3
 have hs:es.size=xs.length:=by rw [← Array.length_toList,h4,List.length_map]
 refine ⟨ho,by rw [hs,Paired.length rel],fun i hi=>?_⟩
 have hix:i < xs.length:=by omega
 obtain ⟨p,e1,_,e2,e3⟩:=pair_at rel (List.getElem?_eq_getElem hix)
 have q:es[i]?=some (entryOfKey (tupleKind (mixKind P w)) xs[i]):=by rw [← Array.getElem?_toList,h4,List.getElem?_map,List.getElem?_eq_getElem hix];rfl
 rw [Array.getElem?_eq_getElem hi] at q
 refine ⟨xs[i].2.1,p,e1,?_,e2,?_⟩
 ·rw [Option.some.inj q];rfl
 ·rw [Option.some.inj q];exact e3
theorem turn_items{P:Program}{w:World}{K:PySem.W.Frag}{es0:List Expr}{x1}{pos:Pos}(a it:Addr){o:Obj}{es:Array DictEntry}{ep:Nat}(ks:List (List Key))(hd:o.data = .dict es ep) :
  Turn P w K (.Tuple es0 x1 pos) (Iti a o ks) [it] it (fun i h=>∃ ok ov,IsItemIter h it a i es.size ep ok ov) where
 mem:=by simp
 obj:=fun i h st b hb=>by
  have e:b=it:=by simpa using hb
  subst e
  obtain ⟨ok,ov,st⟩:=st
  exact ⟨_,st,fun v z=>by cases z⟩
 keep:=fun i h h' st k=>by
  obtain ⟨ok,ov,st⟩:=st
  exact ⟨ok,ov,k it (by simp) _ st⟩
 item:=by
  intro X hP hw hK hc i pins s σ H E I hf st hg
  subst hP hw hK
  obtain ⟨⟨us,hH,rfl⟩,hi⟩:=hg
  obtain ⟨ok,ov,st⟩:=st
  obtain ⟨ho,hs,hk⟩:=frz_dT2 hd I.hok hH
  rw [List.length_map] at hi
  have hlt:i < es.size:=by omega
  obtain ⟨b,p,e1,e2,e3,e4⟩:=hk i hlt
  have fe:=hf it (by simp)
  refine next_items_item st ho hd hlt fun h1 hout htup hsz hkeep=>?_
  refine ⟨_,rfl,wpAny_letOwnedTupleGo_items hout fun h2 he2 sb2=>?_⟩
  have Im:Inv X pins σ (upd H s.heap.objs.size (.tup [.ref b,p.2])) { s with heap:=s.heap.push { cls:=.type "tuple",data:=.seq #[es[i].key,es[i].val] } } :=
   I.laid (t':=s.toks) (fun b v q=>Heap.get?_push_of_some _ q) (Nat.le_refl _) ⟨by show 2 ≤ sizeLine;decide,[es[i].key,es[i].val],.cons e2 (.cons e4 .nil),⟨_,Heap.get?_push_size _ rfl,rfl,_,rfl⟩⟩
  have ne:it ≠ s.heap.objs.size:=Nat.ne_of_lt (Heap.lt_size st)
  have fr:upd H s.heap.objs.size (.tup [.ref b,p.2]) it=none:=by rw [upd_ne ne];exact fe.1
  have I2:Inv X pins σ (upd H s.heap.objs.size (.tup [.ref b,p.2])) { s with heap:=h2,toks:=s.toks } :=
   Im.turned (t':=s.toks) (h':=h2) (fun c u hc q=>by
    have q:(s.heap.push { cls:=.type "tuple",data:=.seq #[es[i].key,es[i].val] }).get? c=some u:=q
    refine (sb2.2 c hc).trans ?_
    rcases Heap.get?_push_cases q with ⟨hb,ho⟩ | q'
    ·subst hb;subst ho;exact htup
    ·exact hkeep c u hc q') fr fe.2.1 fe.2.2.2.1 fe.2.2.2.2.1 fe.2.2.2.2.2
  exact ⟨.ref s.heap.objs.size,_,I2,rfl,⟨_,b,us,p,rfl,I.hok.fresh (Nat.le_refl _),rfl,hH,e1,e3⟩,⟨_,_,he2⟩,fun c hc=>by rw [List.mem_singleton.mp hc];exact fr⟩
 done:=by
  intro X hP hw hK hc i pins s σ H E I hf st hg
  subst hP hw hK
  obtain ⟨⟨us,hH,rfl⟩,hi⟩:=hg
  obtain ⟨ok,ov,st⟩:=st
  obtain ⟨ho,hs,hk⟩:=frz_dT2 hd I.hok hH
  rw [List.length_map] at hi
  obtain ⟨f0,f1,f2,f3,f4,f5⟩:=hf it (by simp)
  exact next_items_end (I.ok.hd hc) st ho hd (by omega) fun h' eb=>⟨rfl,I.turned (t':=s.toks) (fun b o hb e=>eb b o hb e) f0 f1 f3 f4 f5⟩
 self:=fun A i s Q E st h=>by
  obtain ⟨ok,ov,st⟩:=st
  exact PySem.W.kcp_self st h
noncomputable def viewOf(v a:Addr)(h:Heap):Prop:=h.IsItemsView v a
section
variable {X:Cx}
theorem mt_items:MtR X "dict.items" (fun x vs H Q=>∃ a kvs,x = .ref a∧vs=[]∧H a=some (.dT kvs)∧∀ v,H v=none→Q (.ref v) (upd H v (.ext (viewOf v a)))):=by
 intro pins s σ H x xs v us Q I rx r h
 obtain ⟨a,kvs,rfl,rfl,hH,q⟩:=h
 cases rx
 cases r
 obtain ⟨z,hd,ys,rel,o,es,ep,h1,h2,h3,h4,h5⟩:=(show ObjOk X.prog X.w H s.heap a (.dT kvs) from I.hok a _ hH)
 refine call_items hd ⟨o,h1,h2.1⟩ ?_
 exact ⟨.ref s.heap.objs.size,_,I.laid (t':=s.toks) (fun b u q=>Heap.get?_push_of_some _ q) (Nat.le_refl _) (show ObjOk X.prog X.w _ _ _ (.ext (viewOf s.heap.objs.size a)) from ⟨⟨_,Heap.get?_push_size _ rfl,rfl,rfl⟩,⟨_,Heap.get?_push_size _ rfl⟩,fun _ _ p k=>by obtain ⟨o,z,r⟩:=p;exact ⟨o,k _ z,r⟩⟩),rfl,q _ (I.hok.fresh (Nat.le_refl _))⟩
end
end L2
namespace L2
open PySem PySem.Spec PyProof.Rows
section
variable {X:Cx} {tg:Expr}
noncomputable def iItems(K:PySem.W.Frag)(tl:TE):TI:=fun σ H R=>tl σ H fun x H1=>∃ a kvs,x = .ref a∧H1 a=some (.dT kvs)∧∀ v,H1 v=none→∀ o,R (Iti a o (kvs.map (·.1))) (upd (upd H1 v (.ext (viewOf v a))) a (.frz o (.dT kvs)))
theorem pi_items{l:Expr}{tl:TE}{apos cpos:Pos}(hl:PE X l tl)(htg:∃ es x1 pos,tg = .Tuple es x1 pos:=by exact ⟨_,_,_,rfl⟩)(hbase:attributeBase l "items" X.env (eval l X.env)=eval l X.env:=by rfl)(hline:(apos.endLine == cpos.line)=true:=by rfl) :
  PI X tg (.Call (.Attribute l "items" apos) [] [] cpos) (iItems X.K tl):=by
 intro pins s σ H R I h
 obtain ⟨es0,x1,pos,rfl⟩:=htg
 have w:=pe_bm0 (X:=X) (o:=l) (to:=fun σ H Q=>∃ Q0:VK,tl σ H Q0∧∀ x H1,Q0 x H1→Q x H1) PySem.F.plainAttrs_dict PySem.F.slot_dict_items PySem.F.type_dict_items mt_items (by
  intro pins s σ H Q I h
  obtain ⟨Q0,h,k⟩:=h
  refine thn (hl pins s σ H _ I h) fun v s1 z=>?_
  obtain ⟨x,H1,I1,r1,q⟩:=z
  exact ⟨x,H1,I1,r1,k _ _ q⟩) hbase hline pins s σ H (fun y H2=>∃ a v H1 kvs,y = .ref v∧H1 v=none∧H1 a=some (.dT kvs)∧H2=upd H1 v (.ext (viewOf v a))∧∀ o,R (Iti a o (kvs.map (·.1))) (upd H2 a (.frz o (.dT kvs)))) I ?_
 ·refine thn w fun v s1 z=>?_
  obtain ⟨y,H2,I2,r2,a,v',H1,kvs,rfl,hv,hH,rfl,q⟩:=z
  cases r2
  have hva:a ≠ v':=fun z=>by rw [z,hv] at hH;cases hH
  have hH2:upd H1 v' (.ext (viewOf v' a)) a=some (.dT kvs):=by rw [upd_ne hva];exact hH
  obtain ⟨hvw,_,_⟩:=(show ObjOk X.prog X.w _ s1.heap v' (.ext (viewOf v' a)) from I2.hok v' _ upd_same)
  obtain ⟨z,hd,xs,rel,o,es,ep,h1,h2,h3,h4,h5⟩:=(show ObjOk X.prog X.w _ s1.heap a (.dT kvs) from I2.hok a _ hH2)
  refine iter_items hvw h1 h3 ?_
  generalize upd H1 v' (.ext (viewOf v' a))=H2 at I2 hH2 rel q
  have hne:∀ b ys,H2 b=some (.tup ys)→(upd H2 a (.frz o (.dT kvs))) b=some (.tup ys):=fun b ys eb=>by rw [upd_ne (ne_of eb hH2 (fun z=>nomatch z))];exact eb
  have I3:=I2.write (x:=a) (e:=a) (o:=.frz o (.dT kvs)) (t':=s1.toks) (h':=s1.heap.push { cls:=.type "dict_itemiterator",data:=.fields #[.none,.bool false,.ref a,.int 0 0,.int es.size 0,.int ep 0,.none,.none] }) (by rw [hH2];exact True.intro) (.inl rfl) (fun b u _ q=>Heap.get?_push_of_some _ q) ⟨_,Heap.get?_push_of_some _ h1⟩
   ⟨Heap.get?_push_of_some _ h1,z,hd,xs,KT.keeps rel hne,o,es,ep,Heap.get?_push_of_some _ h1,h2,h3,h4,h5⟩
  refine ⟨s1.heap.objs.size,[s1.heap.objs.size],_,_,_,rfl,I3,turn_items a _ (kvs.map (·.1)) h3,⟨_,_,Heap.get?_push_size _ rfl⟩,fun b hb=>?_,q o⟩
  have e:b=s1.heap.objs.size:=by simpa using hb
  subst e
  have hne2:s1.heap.objs.size ≠ a:=Nat.ne_of_gt (Heap.lt_size h1)
  exact I2.fpOk (Nat.le_refl _) (by rw [upd_ne hne2];exact I2.hok.fresh (Nat.le_refl _))
 ·refine ⟨_,h,fun x H1 z=>?_⟩
  obtain ⟨a,kvs,rfl,hH,q⟩:=z
  exact ⟨.inr (.inr (.inl ⟨rfl,.inr ⟨kvs,hH⟩⟩)),a,kvs,rfl,rfl,hH,fun v hv=>⟨a,v,H1,kvs,rfl,hv,hH,rfl,fun o=>q v hv o⟩⟩
end
end L2
namespace DL
open PySem PySem.Spec L2
noncomputable def itD(kv:List Key×D):D:=.tup [keyD kv.1,kv.2]
noncomputable def dIItems(f:DE):DI:=fun δ h Q=>f δ h fun d h1=>match d with
 |.ref i=>match h1[i]? with
  |some (.dT none kvs)=>∀ o,Q ⟨kvs.map itD,[(i,.dT (some o) kvs)]⟩ (h1.set i (.dT (some o) kvs))
  |_=>False
 |_=>False
theorem RelKV.get{K:KP}{α:List Addr}{H:Hp}{κ:Type}{kvs:List (κ×D)}{us:List (κ×V)}(r:RelKV K α H kvs us):∀ {i:Nat} {p:κ×V},us[i]?=some p→∃ d,kvs[i]?=some (p.1,d)∧RelD K α H d p.2:=by
 induction r with
 |nil=>intro i p e;simp at e
 |cons r _ ih =>
  intro i p e
  cases i with
  |zero=>simp at e;subst e;exact ⟨_,rfl,r⟩
  |succ i =>
   obtain ⟨d,h1,h2⟩:=ih (i:=i) (p:=p) (by simpa using e)
   exact ⟨d,by simpa using h1,h2⟩
theorem it_items{K:PySem.W.Frag}{π α:List Addr}{H:Hp}{i:Nat}{a:Addr}{o:Obj}{kvs:List (List Key×D)}(hp:α[i]?=some a):ItA K π α H (Iti a o (kvs.map (·.1))) ⟨kvs.map itD,[(i,.dT (some o) kvs)]⟩:=fun π' sub=>by
 refine ⟨fun α _=>α[i]?=some a,⟨fun α H α' H' st e=>e.get st,fun α H H' D st _ _=>st,fun α H h j d R st ok hj=>?_,fun α H h R st ok=>?_⟩,hp⟩
 ·have hh:h[i]?=some (.dT (some o) kvs):=ok (i,.dT (some o) kvs) List.mem_cons_self
  obtain ⟨p,us,e1,e2,e3⟩:=R.dT hh
  rw [st] at e1;cases e1
  have hj:(kvs.map itD)[j]?=some d:=hj
  rw [List.getElem?_map] at hj
  cases q:kvs[j]? with
  |none=>rw [q] at hj;cases hj
  |some kv =>
   rw [q] at hj;cases hj
   refine ⟨⟨⟨us,e2,e3.keys⟩,by rw [List.length_map];exact (List.getElem?_eq_some_iff.mp q).1⟩,fun x H' y=>?_⟩
   obtain ⟨T,b,us',pr,rfl,hT,rfl,h4,h5,h6⟩:=y
   have e2:H a=some (.frz o (.dT us)):=e2
   rw [e2] at h4;cases h4
   obtain ⟨dd,g1,g2⟩:=e3.get h5
   rw [q] at g1;cases g1
   have e:Ext α H α (upd H T (.tup [.ref b,pr.2])):=Ext.new hT
   exact ⟨e,R.new hT,.tup ⟨R.out hT,R.outP hT,upd_same⟩ (.cons ((key_of_H R h6).mono e) (.cons (g2.mono e) .nil))⟩
 ·have hh:h[i]?=some (.dT (some o) kvs):=ok (i,.dT (some o) kvs) List.mem_cons_self
  obtain ⟨p,us,e1,e2,e3⟩:=R.dT hh
  rw [st] at e1;cases e1
  exact ⟨⟨us,e2,e3.keys⟩,by rw [List.length_map];show kvs.length ≤ (kvs.map itD).length;rw [List.length_map];exact Nat.le_refl _⟩
section
variable {X:Cx} {tg:Expr}
theorem si_items{l:Expr}{f:DE}{apos cpos:Pos}(hl:SE X l f)(htg:∃ es x1 pos,tg = .Tuple es x1 pos:=by exact ⟨_,_,_,rfl⟩)(hbase:attributeBase l "items" X.env (eval l X.env)=eval l X.env:=by rfl)(hline:(apos.endLine == cpos.line)=true:=by rfl) :
  SI X tg (.Call (.Attribute l "items" apos) [] [] cpos) (dIItems f):=PI.imp (pi_items hl htg hbase hline) fun σ H Q zz0=>by
 obtain ⟨π,α,δ,h,Q',R,S,f,k⟩:=zz0
 refine ⟨π,α,δ,h,_,R,S,f,fun d h1 α1 H1 v1 f1 e1 R1 q1=>?_⟩
 cases q1 with
 |@ref i a hp =>
  dsimp only at f1
  cases q:h1[i]? with
  |none=>rw [q] at f1;exact f1.elim
  |some ob =>
   rw [q] at f1
   cases ob with
   |dT z kvs =>
    cases z with
    |some o=>exact f1.elim
    |none =>
     obtain ⟨p,us,e2,e3,e4⟩:=R1.dT q
     rw [hp] at e2;cases e2
     have e3:H1 a=some (.dT us):=e3
     refine ⟨a,us,rfl,e3,fun v hv o=>?_⟩
     have ev:Ext α1 H1 α1 (upd H1 v (.ext (viewOf v a))):=Ext.new hv
     have Rv:HRel ⟨X.K,π⟩ α1 (upd H1 v (.ext (viewOf v a))) h1:=R1.new hv
     have e:Ext α1 (upd H1 v (.ext (viewOf v a))) α1 (upd (upd H1 v (.ext (viewOf v a))) a (.frz o (.dT us))):=Ext.write (List.mem_of_getElem? hp)
     rw [e4.keys]
     refine k _ _ α1 _ _ (f1 o) (e1.trans (ev.trans e)) (Rv.write hp (.dT (z:=some o) upd_same ((e4.mono ev).mono e))) (it_items hp) fun p hp'=>?_
     rw [List.mem_singleton.mp hp',List.getElem?_set_self (List.getElem?_eq_some_iff.mp q).1]
   |_=>exact f1.elim
 |_=>exact f1.elim
end
noncomputable def dForI(s:DI)(t:DG)(b:DS):DS:=fun E δ h=>dFor s t b (thE h E) δ h
theorem s_forI{X:Cx}{tg iter:Expr}{body:List Stmt}{sr:DI}{t:DG}{b:DS}{pos:Pos}(hp:PassesOwn (model X.prog X.w) X.A X.env X.xe)(hc:X.calm=true)(hi:SI X tg iter sr)(hg:SG X tg t)(hb:SSs X body b)
  (hs:∀ x,foldedSetIterable iter X.env x=pure x:=by intro _;rfl):SS X (.For tg iter body [] pos) (dForI sr t b):=by
 intro pins s σ H D I zz
 obtain ⟨π,α,δ,h,E,R,S,q,k⟩:=zz
 have w:=s_for (pos:=pos) hp hc hi hg hb hs pins s σ H { nx:=fun σ' H'=>thH H H' fun H2=>D.nx σ' H2,rt:=fun v H'=>thH H H' fun H2=>D.rt v H2,bk:=fun σ' H'=>thH H H' fun H2=>D.bk σ' H2,ct:=fun σ' H'=>thH H H' fun H2=>D.ct σ' H2 } I
  ⟨π,α,δ,h,thE h E,R,S,q,⟨fun δ' h' α' H' σ' a e R' S'=>thaw_lift R e R' a fun h2 H2 z x R2=>k.nx δ' h2 α' H2 σ' z (e.trans x) R2 (S'.mono x),fun d h' α' H' v a e R' r=>thaw_lift R e R' a fun h2 H2 z x R2=>k.rt d h2 α' H2 v z (e.trans x) R2 (r.mono x),
   fun δ' h' α' H' σ' a e R' S'=>thaw_lift R e R' a fun h2 H2 z x R2=>k.bk δ' h2 α' H2 σ' z (e.trans x) R2 (S'.mono x),fun δ' h' α' H' σ' a e R' S'=>thaw_lift R e R' a fun h2 H2 z x R2=>k.ct δ' h2 α' H2 σ' z (e.trans x) R2 (S'.mono x),fun _ _ _ _ _ _ _ a _ _ _=>a.elim⟩⟩
 refine thn w fun fl s' z=>?_
 cases fl with
 |ret u =>
  obtain ⟨v,σ',H',I',r,z⟩:=z
  obtain ⟨H2,I2,z⟩:=thH.thaw I I' z
  exact ⟨v,σ',H2,I2,r,z⟩
 |_ =>
  obtain ⟨σ',H',I',z⟩:=z
  obtain ⟨H2,I2,z⟩:=thH.thaw I I' z
  exact ⟨σ',H2,I2,z⟩
end DL
namespace L2
open PySem PySem.Spec PyProof.Rows
section
variable {prog:Program} {w:World} {A:Around} {E:Value→Shared→Prop} {s:Shared}
theorem len_entries{d:Addr}{o:Obj}{es:Array DictEntry}{ep:Nat}{Q:Value→Shared→Prop}(hd:(d == sysModules)=false)(ho:s.heap.get? d=some o)(hx:o.ExactDict)(hdat:o.data = .dict es ep)(hfit:(es.size:Int) < 2 ^ 63)
  (h:Q (.int es.size (s.toks + 1)) { s with toks:=s.toks + 1 + 1 }):wpAny (model prog w) A (call (.builtin "len") [.ref d]) Q E s:=by
 have hT:s.TypeIs (.ref d) "dict":=⟨o,ho,hx.1⟩
 refine Calls.call_function_entry kind_len plain_len entry_len (args_len1 _) ?_
 unfold Builtin.«len»
 refine wpAny_bind (m:=oneArg "len" _) (wpAny_pure ?_)
 refine wpAny_bind (m:=callSpecial? (.ref d) (Str.ofString "__len__")) (wpAny_callSpecial?_slot (name:=Str.ofString "__len__") hT F.slot_dict_len (wpAny_call_entry F.slot_dict_len hT F.entry_dict_len ?_ (F.args_dict_len_1 _)))
 show wpAny _ _ (dictSize d >>= _) _ _ s
 unfold dictSize
 refine wpAny_bind (wpAny_bind (wpAny_dictEntries ho hdat (wpAny_pure ?_)))
 show wpAny _ _ (Builtin.Dict.pendingCount d >>= _) _ _ s
 refine wpAny_bind (wpAny_pendingCount_other hd ?_)
 refine wpAny_ret_mkInt ?_
 have e0:((es.size:Int) + ((0:Nat):Int))=(es.size:Int):=by simp
 rw [e0]
 show wpAny _ _ _ _ _ { s with toks:=s.toks + 1 }
 refine wpAny_bind (wpAny_holding (wpAny_pure ?_))
 refine wpAny_bind (wpAny_letGo ?_)
 show wpAny _ _ (if ((es.size:Nat):Int) < 0 then _ else _) _ _ _
 rw [if_neg (by omega)]
 show wpAny _ _ (if ((es.size:Nat):Int) ≥ 2 ^ 63 then _ else _) _ _ _
 rw [if_neg (by omega)]
 exact wpAny_bind (wpAny_mkInt (wpAny_pure ⟨_,rfl,h⟩))
end
section
variable {X:Cx}
theorem call_lenT:CallR X (.builtin "len") (fun xs H Q=>∃ a kvs,xs=[.ref a]∧Rd H a (.dT kvs)∧Q (.int kvs.length) H):=by
 intro pins s σ H xs us Q I r h
 obtain ⟨a,kvs,rfl,e,q⟩:=h
 obtain ⟨u,rfl,ru⟩:=vals1 r
 cases ru
 obtain ⟨z,hd,ys,rel,o,es,ep,h1,h2,h3,h4,h5⟩:=(show ObjOk X.prog X.w H s.heap a (.dT kvs) from rd_of I.hok e)
 have hs:es.size=kvs.length:=by rw [← Array.length_toList,h4,List.length_map,Paired.length rel]
 refine len_entries hd h1 h2 h3 (by rw [hs];rw [sizeLine_eq] at z;omega) ?_
 exact ⟨.int kvs.length,H,I.tok _,⟨_,by rw [hs]⟩,q⟩
end
end L2
namespace DL
open PySem PySem.Spec L2
noncomputable def pLenT:PN:=fun ds h Q=>∃ i z kvs,ds=[.ref i]∧h[i]?=some (.dT z kvs)∧Q (.int kvs.length) h
theorem ok_lenT{X:Cx}:CallR X (.builtin "len") (rN X.K pLenT):=CallR.imp call_lenT fun xs H Q ⟨π,α,h,ds,Q',R,rs,f,k⟩=>by
 obtain ⟨i,z,kvs,rfl,e,f⟩:=f
 obtain ⟨v,rfl,rd⟩:=rs.inv1
 cases rd with
 |ref hp =>
  obtain ⟨us,rd,rel⟩:=R.rdT hp e
  have ll:kvs.length=us.length:=by
   have:=congrArg List.length rel.keys
   simpa using this.symm
  exact ⟨_,us,rfl,rd,k _ h α H _ f (Ext.refl ..) R (by rw [ll];exact .int _)⟩
end DL
namespace L2
open PySem PySem.Spec PyProof.Rows
section
variable {prog:Program} {w:World} {A:Around}
theorem walks_keys(hh:A.handled=none)(it d:Addr)(hne:d ≠ it){o:Obj}{es:Array DictEntry}{ep:Nat}(hdd:o.data = .dict es ep) :
  Walks prog w A it [it,d] [it] es.size (fun i v=>∃ h:i < es.size,v=es[i].key) (fun i h=>h.IsKeyIter it d i es.size ep∧h.get? d=some o) where
 sub:=fun b hb=>List.mem_cons.mpr (.inl (List.mem_singleton.mp hb))
 frame:=fun i h h' st k=>by
  obtain ⟨⟨ob,e,r⟩,hd⟩:=st
  exact ⟨⟨ob,k it (by simp) ob e,r⟩,k d (by simp) o hd⟩
 item:=fun i s Q E hi st hQ=>next_key_item st.1 st.2 hdd hi fun h' st' sb=>hQ _ h' s.toks ⟨hi,rfl⟩ ⟨st',(sb.2 d hne).trans st.2⟩ fun b o hb e=>(sb.2 b (by simpa using hb)).trans e
 done:=fun s Q E st hQ=>next_key_end hh st.1 st.2 hdd (Nat.le_refl _) fun h' eb=>hQ h' s.toks fun b o hb e=>eb b o (by simpa using hb) e
 self:=fun i s Q E st h=>by
  obtain ⟨st,_⟩:=st
  refine wpAny_pyIter_slot st.typeIs F.slot_dict_keyiterator_iter (wpAny_call_entry F.slot_dict_keyiterator_iter st.typeIs F.entry_dict_keyiterator_iter ?_ (F.args_dict_keyiterator_iter_1 _))
  show wpAny _ _ (ret (.ref it)) _ _ s
  exact wpAny_pure ⟨_,rfl,"dict_keyiterator",_,st.typeIs,F.slot_dict_keyiterator_next.lookup,h⟩
theorem src_keys{d:Addr}{o:Obj}{es:Array DictEntry}{ep:Nat}(lo:(d == sysModules)=false)(hx:o.ExactDict)(hdd:o.data = .dict es ep):PySem.W.KdlSrc prog w "dict" d d es.size (fun i v=>∃ h:i < es.size,v=es[i].key) (fun h=>h.get? d=some o) where
 type:=fun _ e=>⟨o,e,hx.1⟩
 there:=fun _ e=>⟨Heap.lt_size e,Heap.lt_size e⟩
 keep:=fun _ _ e k=>k d (.inl rfl) o e
 notList:=by decide
 notTuple:=by decide
 hint:=fun _ _ _ _ e hq=>PySem.W.kdl_hint_dict ⟨o,e,hx.1⟩ hq
 iter:=fun A s hh e=>⟨_,_,(fun _ _ hq=>iter_keys lo e hx hdd hq),walks_keys hh _ d (Nat.ne_of_lt (Heap.lt_size e)) hdd,⟨⟨_,Heap.get?_push_size _ rfl,rfl,rfl⟩,Heap.get?_push_of_some _ e⟩⟩
end
section
variable {X:Cx}
noncomputable def KeysAt(H:Hp)(kvs:List (List Key×V))(bs:List Addr):Prop:=bs.length=kvs.length∧∀ (i:Nat) (b:Addr) (p:List Key×V),bs[i]?=some b→kvs[i]?=some p→H b=some (.tup (p.1.map kV))
theorem refs_val:∀ bs:List Addr,Vals (bs.map V.ref) (bs.map Value.ref)
 |[]=>.nil
 |_ :: bs=>.cons rfl (refs_val bs)
theorem call_listT(hc:X.calm=true):CallR X (.type "list") (fun xs H Q=>∃ a kvs,xs=[.ref a]∧Rd H a (.dT kvs)∧∀ p bs,H p=none→KeysAt H kvs bs→Q (.ref p) (upd H p (.lst (bs.map V.ref)))):=by
 intro pins s σ H xs us Q I r h
 obtain ⟨a,kvs,rfl,e,q⟩:=h
 obtain ⟨u,rfl,ru⟩:=vals1 r
 cases ru
 obtain ⟨z,hd,ys,rel,o,es,ep,h1,h2,h3,h4,h5⟩:=(show ObjOk X.prog X.w H s.heap a (.dT kvs) from rd_of I.hok e)
 have hs:es.size=ys.length:=by rw [← Array.length_toList,h4,List.length_map]
 have hl:=Paired.length rel
 have hk:∀ i (hi:i < es.size),∃ p,kvs[i]?=some p∧∃ b,es[i].key = .ref b∧(ys.map (·.2.1))[i]?=some b∧H b=some (.tup (p.1.map kV)):=fun i hi=>by
  have hix:i < ys.length:=by omega
  obtain ⟨p,e1,_,e2,_⟩:=pair_at rel (List.getElem?_eq_getElem hix)
  have q:es[i]?=some (entryOfKey (tupleKind (mixKind X.prog X.w)) ys[i]):=by rw [← Array.getElem?_toList,h4,List.getElem?_map,List.getElem?_eq_getElem hix];rfl
  rw [Array.getElem?_eq_getElem hi] at q
  exact ⟨p,e1,ys[i].2.1,by rw [Option.some.inj q];rfl,by rw [List.getElem?_map,List.getElem?_eq_getElem hix];rfl,e2⟩
 refine PySem.W.kdl_call (src_keys hd h2 h3) (I.ok.hd hc) h1 (by rw [hs,← hl];exact z) fun h' tk acc' c' hkp hS hacc=>?_
 have ea:acc'=((ys.map (·.2.1)).map Value.ref).toArray:=by
  apply Array.ext_getElem?
  intro i
  have er:(((ys.map (·.2.1)).map Value.ref).toArray)[i]?=((ys.map (·.2.1))[i]?).map Value.ref:=by simp
  rw [er]
  rcases Nat.lt_or_ge i es.size with hi | hi
  ·have ha:i < acc'.size:=by rw [hacc.1];exact hi
   obtain ⟨_,hv⟩:=hacc.2 i _ (Array.getElem?_eq_getElem ha)
   obtain ⟨p,_,b,k1,k2,_⟩:=hk i hi
   rw [Array.getElem?_eq_getElem ha,hv,k1,k2];rfl
  ·rw [Array.getElem?_eq_none (by rw [hacc.1];exact hi),List.getElem?_eq_none (by rw [List.length_map];omega)];rfl
 refine ⟨.ref s.heap.objs.size,_,I.laid (t':=tk) hkp (Nat.le_refl _) (show ObjOk X.prog X.w _ h' _ (.lst ((ys.map (·.2.1)).map V.ref)) from ⟨by rw [List.length_map,List.length_map,← hl];exact z,(ys.map (·.2.1)).map Value.ref,c',refs_val _,by rw [← ea];exact hS⟩),rfl,q _ _ (I.hok.fresh (Nat.le_refl _)) ⟨by rw [List.length_map,hl],fun i b p hb hp=>?_⟩⟩
 have hi:i < es.size:=by
  have:=(List.getElem?_eq_some_iff.mp hb).1
  rw [List.length_map] at this;omega
 obtain ⟨p',e1,b',_,e2,e3⟩:=hk i hi
 rw [hp] at e1;cases e1
 rw [hb] at e2;cases e2
 exact e3
end
end L2
namespace DL
open PySem PySem.Spec L2
noncomputable def dListT(f:DA):DN:=fun δ h Q=>f δ h fun ds h1=>∃ i z kvs,ds=[.ref i]∧h1[i]?=some (.dT z kvs)∧Q (kvs.map fun kv=>keyD kv.1) h1
theorem keys_rel{K:KP}{α:List Addr}{H:Hp}{h:Hh}(R:HRel K α H h):∀ {kvs:List (List Key×D)} {us:List (List Key×V)} {bs:List Addr},us.map (·.1)=kvs.map (·.1)→KeysAt H us bs→RelDs K α H (kvs.map fun kv=>keyD kv.1) (bs.map V.ref)
 |[],[],[],_,_=>.nil
 |kv :: kvs,u :: us,b :: bs,e,a=>by
  rw [List.map_cons,List.map_cons] at e
  injection e with e1 e2
  refine .cons ?_ (keys_rel R (us:=us) e2 ⟨by have:=a.1;simpa using this,fun i b p h1 h2=>a.2 (i + 1) b p (by simpa using h1) (by simpa using h2)⟩)
  have:=a.2 0 b u rfl rfl
  rw [e1] at this
  exact key_of_H R this
 |[],[],_ :: _,_,a=>by have:=a.1;simp at this
 |_ :: _,_ :: _,[],_,a=>by have:=a.1;simp at this
 |[],_ :: _,_,e,_=>by simp at e
 |_ :: _,[],_,e,_=>by simp at e
section
variable {X:Cx} {e:Expr} {es:List Expr} {n:Nat} {f:DA} {p pos:Pos}
theorem sn_listT(hc:X.calm=true)(hg:Gl X "list")(hm:X.mg "list" = none)(ha:SA X (e :: es) n f)(he:starEach (e :: es) X.env=(false,eval e X.env) :: starEach es X.env:=by rfl)(hpl:(backTo pos (starEach es X.env)).any (·.1)=false:=by rfl) :
  SN X (.Call (.Name "list" p) (e :: es) [] pos) (dListT f):=PE.imp (pe_callTy (call_listT hc) hg hm PyProof.Rows.boot_list ha (by decide) (by decide) he hpl) fun σ H Q zz=>by
 obtain ⟨π,α,δ,h,Q',R,S,f,k⟩:=zz
 refine ⟨π,α,δ,h,_,R,S,f,fun ds h1 α1 H1 vs f1 e1 R1 q1 l1=>?_⟩
 obtain ⟨i,z,kvs,rfl,eh,f1⟩:=f1
 obtain ⟨v,rfl,rd⟩:=q1.inv1
 cases rd with
 |ref hp =>
  obtain ⟨us,rd,rel⟩:=R1.rdT hp eh
  exact ⟨_,us,rfl,rd,fun l bs hl kb=>LN.last (h:=h) k f1 e1 R1 (keys_rel R1 rel.keys kb) hl⟩
end
end DL
namespace L2
open PySem PySem.Spec PyProof.Rows
theorem erase_filter{κ β:Type} [DecidableEq κ]:∀ {xs:List (κ×β)} {j:Nat} {k:κ} {p:β},(xs.map (·.1)).Nodup→xs[j]?=some (k,p)→xs.eraseIdx j=xs.filter fun x=>decide (x.1 ≠ k)
 |[],j,k,p,_,e=>by simp at e
 |x :: xs,0,k,p,hn,e=>by
  simp at e
  subst e
  rw [List.map_cons,List.nodup_cons] at hn
  rw [List.eraseIdx_cons_zero,List.filter_cons,if_neg (by simp)]
  refine (List.filter_eq_self.mpr fun y hy=>?_).symm
  exact decide_eq_true fun z=>hn.1 (List.mem_map.mpr ⟨y,hy,z⟩)
 |x :: xs,j + 1,k,p,hn,e=>by
  have e:xs[j]?=some (k,p):=by simpa using e
  rw [List.map_cons,List.nodup_cons] at hn
  rw [List.eraseIdx_cons_succ,List.filter_cons,if_pos,erase_filter hn.2 e]
  exact decide_eq_true fun z=>hn.1 (List.mem_map.mpr ⟨(k,p),List.mem_of_getElem? e,z.symm⟩)
theorem erase_map{α β:Type}(f:α→β):∀ (l:List α) (j:Nat),(l.eraseIdx j).map f=(l.map f).eraseIdx j
 |[],j=>by simp
 |x :: l,0=>rfl
 |x :: l,j + 1=>by rw [List.eraseIdx_cons_succ,List.map_cons,List.map_cons,List.eraseIdx_cons_succ,erase_map f l j]
theorem KT.drop{H:Hp}(k:List Key){kvs:List (List Key×V)}{xs:List (List Key×Addr×Value)}(h:KT H kvs xs):KT H (dropK kvs k) (xs.filter fun x=>decide (x.1 ≠ k)):=by
 induction h with
 |nil=>exact .nil
 |@cons p q l1 l2 r t ih =>
  unfold dropK at *
  rw [List.filter_cons,List.filter_cons]
  by_cases c:p.1=k
  ·rw [if_neg (by simpa using c),if_neg (by rw [← r.1];simpa using c)];exact ih
  ·rw [if_pos (by simpa using c),if_pos (by rw [← r.1];simpa using c)];exact .cons r ih
section
variable {X:Cx} {pins:List (Addr×Obj)} {σ:St} {H:Hp} {s:Shared} {a b:Addr} {A:Around} {E:Value→Shared→Prop}
theorem d_popT{kvs:List (List Key×V)}{k:List Key}{v:V}{Q:Value→Shared→Prop}(hu:A.units + 1 < cLine)(I:Inv X pins σ H s)(e:H a=some (.dT kvs))(eb:H b=some (.tup (k.map kV)))(l:valV kvs k=some v)
  (h:∀ w' s',Inv X pins σ (upd H a (.dT (dropK kvs k))) s'→RelV v w'→Q w' s'):wpAny (model X.prog X.w) A (call (.builtin "dict.pop") [.ref a,.ref b]) Q E s:=by
 obtain ⟨z,hd,xs,rel,dd⟩:=dt_of I.hok e
 have hT:=dd.typeIs
 obtain ⟨o,es,ep,ho,hc,hdd,he,his,hn⟩:=id dd
 obtain ⟨w',hw,rw'⟩:=RelO.some_of (v:=v) (o:=(atKey xs k).map (·.2)) (by rw [← l];exact rel.val k)
 have hl:=Paired.length rel
 have hes:es.size=xs.length:=by rw [← Array.length_toList,he,List.length_map]
 refine wpAny_call_entry F.slot_dict_pop hT F.entry_dict_pop ?_ (F.args_dict_pop_2 _ _)
 unfold Builtin.«dict.pop»
 refine wpAny_bind ?_
 unfold Builtin.Dict.keyAndDefault
 refine wpAny_bind (wpAny_notOrdered_dict hT ?_)
 show wpAny _ _ (pure (a,Value.ref b,none)) _ _ s
 refine wpAny_pure ?_
 have ne:es.isEmpty=false:=by
  obtain ⟨p,hp,_⟩:=Option.map_eq_some_iff.mp hw
  cases q:es.isEmpty with
  |false=>rfl
  |true =>
   have:xs=[]:=List.length_eq_zero_iff.mp (by rw [← hes];simpa using q)
   rw [this] at hp;cases hp
 have kp:(keyPart (Value.ref b)).isSome=false:=rfl
 simp only [kp,Bool.false_eq_true,if_false]
 refine wpAny_bind (wpAny_dictEntries ho hdd ?_)
 refine wpAny_bind (wpAny_pure ?_)
 simp only [ne,Bool.false_eq_true,if_false]
 refine wpAny_bind ?_
 unfold Builtin.Dict.takeOut
 try with_reducible refine wpAny_holding ?_
 have rm:=tupleKind_room_in1 (prog:=X.prog) (w:=X.w) (knd:=mixKind X.prog X.w) hu
 have key:=key_of I.hok eb
 refine wpAny_bind ((tupleKind (mixKind X.prog X.w)).pyHash rm key (wpAny_bind (wpAny_dictFind_heap (s:={ s with toks:=s.toks + (tupleKind (mixKind X.prog X.w)).draws k }) rm key ho hdd he his hn ?_ ?_)))
 ·intro hno
  rw [atKey_none_of_get hno] at hw;cases hw
 ·intro j p hj
  rw [atKey_of_get hn hj] at hw
  cases hw
  refine wpAny_bind (wpAny_dictEntries (s:={ s with toks:=s.toks + (tupleKind (mixKind X.prog X.w)).draws k }) ho hdd ?_)
  rw [entry_at he j,hj]
  have hz:es.size ≤ sizeLine:=by rw [hes,← hl];exact z
  refine wpAny_bind (wpAny_updateDictKeys (hz:=hz) (s:={ s with toks:=s.toks + (tupleKind (mixKind X.prog X.w)).draws k }) ho hdd (wpAny_pure ?_))
  simp only [Option.isNone_some,Bool.false_eq_true,if_false]
  have up:=Heap.get?_update_self (Obj.mapDictKeys fun x=>x.eraseIdxIfInBounds j) ho (Obj.isFreed_of_dict (Obj.data_mapDictKeys hdd _))
  have dl:(dropK kvs k).length ≤ sizeLine:=Nat.le_trans (List.length_filter_le _ _) z
  refine wpAny_bind (wpAny_letGo (wpAny_pure ⟨_,rfl,h _ _ ?_ rw'⟩))
  refine d_write (t':=s.toks + (tupleKind (mixKind X.prog X.w)).draws k) I (by rw [e];exact True.intro) (Heap.SameBut.update ..) ⟨_,up⟩ ⟨dl,hd,xs.filter fun x=>decide (x.1 ≠ k),KT.keeps (KT.drop k rel) fun c ys y=>by rw [upd_ne (ne_of y e (fun q=>nomatch q))];exact y,_,_,ep + 1,up,hc.mapDictKeys _,Obj.data_mapDictKeys hdd _,?_,?_⟩
  ·rw [← erase_filter hn hj,erase_map,← he]
   obtain ⟨lst⟩:=es
   simp
  ·exact hn.sublist (List.filter_sublist.map _)
end
end L2
namespace L2
open PySem PySem.Spec PyProof.Rows
theorem mt_popT{X:Cx}(hu:X.A.units + 1 < cLine):MtR X "dict.pop" (fun x vs H Q=>∃ a b kvs k v,x = .ref a∧vs=[.ref b]∧H a=some (.dT kvs)∧H b=some (.tup (k.map kV))∧valV kvs k=some v∧Q v (upd H a (.dT (dropK kvs k)))):=by
 intro pins s σ H x xs v us Q I rx r h
 obtain ⟨a,b,kvs,k,y,rfl,rfl,hH,hb,l,q⟩:=h
 cases rx
 obtain ⟨u,rfl,ru⟩:=vals1 r
 cases ru
 exact d_popT hu I hH hb l fun w' s' I' r=>⟨y,_,I',r,q⟩
end L2
namespace DL
open PySem PySem.Spec L2
noncomputable def dropD(kvs:List (List Key×D))(k:List Key):List (List Key×D):=kvs.filter fun kv=>decide (kv.1 ≠ k)
noncomputable def dDPop(fd:DE)(fs:DA):DE:=fun δ h Q=>fd δ h fun d h1=>isDD d h1∧(∀ i,d = .ref i→∃ kvs,h1[i]?=some (.dT none kvs))∧fs δ h1 fun ds h2=>∃ i kvs ks v,d = .ref i∧ds=[keyD ks]∧h2[i]?=some (.dT none kvs)∧valD kvs ks=some v∧Q v (h2.set i (.dT none (dropD kvs ks)))
theorem RelKV.drop{K:KP}{α:List Addr}{H:Hp}(k:List Key){kvs:List (List Key×D)}{us:List (List Key×V)}(r:RelKV K α H kvs us):RelKV K α H (dropD kvs k) (dropK us k):=by
 unfold dropD dropK
 induction r with
 |nil=>exact .nil
 |@cons k' d u ds us hr t ih =>
  rw [List.filter_cons,List.filter_cons]
  by_cases c:k'=k
  ·rw [if_neg (by simpa using c),if_neg (by simpa using c)];exact ih
  ·rw [if_pos (by simpa using c),if_pos (by simpa using c)];exact .cons hr ih
section
variable {X:Cx} {o e:Expr} {fd:DE} {fs:DA} {n:Nat} {apos cpos:Pos} {es:List Expr}
theorem se_dpop(hu:X.A.units + 64 < cLine)(ho:SE X o fd)(ha:SA X (e :: es) n fs)(hbase:attributeBase o "pop" X.env (eval o X.env)=eval o X.env:=by rfl)
  (hfew:((backTo cpos (starEach (e :: es) X.env)).all (fun x=>!x.1) && (backToKw cpos (keywordEach [] X.env)).all (fun x=>x.1.isSome)
   && decide ((e :: es).length + ([]:List Keyword).length + (if ([]:List Keyword).isEmpty then 0 else 1) < 30))=true:=by rfl)
  (hline:(apos.endLine == cpos.line)=true:=by rfl) (hs:starEach (e :: es) X.env=(false,eval e X.env) :: starEach es X.env:=by rfl) (hplain:(backTo cpos (starEach es X.env)).any (·.1)=false:=by rfl) :
  SE X (.Call (.Attribute o "pop" apos) (e :: es) [] cpos) (dDPop fd fs):=PE.imp (pe_bm PySem.F.plainAttrs_dict PySem.F.slot_dict_pop PySem.F.type_dict_pop (mt_popT (by omega)) ho ha hbase hfew hline hs hplain) fun σ H Q zz=>by
 obtain ⟨π,α,δ,h,Q',R,S,f,k⟩:=zz
 refine ⟨π,α,δ,h,_,R,S,f,fun d h1 α1 H1 v1 f1 e1 R1 q1=>?_⟩
 obtain ⟨⟨i,z,kvs,rfl,eh⟩,f0,f1⟩:=f1
 obtain ⟨kvs0,eh0⟩:=f0 i rfl
 cases q1 with
 |@ref _ a hp =>
  obtain ⟨p,us,a1,a2,a3⟩:=R1.dT eh0
  rw [hp] at a1;cases a1
  refine ⟨.inr (.inr (.inl ⟨rfl,.inr ⟨us,a2⟩⟩)),π,α1,δ,h1,_,R1,S.mono e1,f1,fun ds h2 α2 H2 vs f2 e2 R2 q2 l2=>?_⟩
  obtain ⟨i',kvs',ks,v,ei,rfl,eh2,hv,q⟩:=f2
  cases ei
  obtain ⟨u,rfl,ru⟩:=q2.inv1
  obtain ⟨b,rfl,hb⟩:=key_at ru
  obtain ⟨p,us2,b1,b2,b3⟩:=R2.dT eh2
  rw [e2.get hp] at b1;cases b1
  have b2:H2 a=some (.dT us2):=b2
  rcases b3.val ks with ⟨z1,_⟩ | ⟨x,y,z1,z2,r⟩
  ·have hv:(kvs'.find? fun kv=>decide (kv.1=ks)).map (·.2)=some v:=hv
   rw [z1] at hv;cases hv
  ·have hv:(kvs'.find? fun kv=>decide (kv.1=ks)).map (·.2)=some v:=hv
   rw [z1] at hv;cases hv
   have e3:Ext α2 H2 α2 (upd H2 a (.dT (dropK us2 ks))):=Ext.write (List.mem_of_getElem? (e2.get hp))
   exact ⟨a,b,us2,ks,y,rfl,rfl,b2,hb,z2,k _ _ α2 _ _ q (e1.trans (e2.trans e3)) (R2.write (e2.get hp) (.dT (z:=none) upd_same ((b3.drop ks).mono e3))) (r.mono e3)⟩
end
end DL
namespace SR
open PySem PyProof.Rows
noncomputable def gallop':Bool→Keyed→Array Keyed→Nat→Nat→Nat→StateT SortSt Sem (Option Nat):=sortPriv% PySem.Builtin.gallop
noncomputable def mergeLo':Array Keyed→Array Keyed→StateT SortSt Sem (Array Keyed):=sortPriv% PySem.Builtin.mergeLo
noncomputable def mergeHi':Array Keyed→Array Keyed→StateT SortSt Sem (Array Keyed):=sortPriv% PySem.Builtin.mergeHi
section
variable {prog:Program} {w:World} {A:Around} {E:Value→Shared→Prop} {s:Shared} {a₀:List Keyed} {κ:SortKind}
noncomputable def Cmp(prog:Program)(w:World)(A:Around)(s:Shared)(κ:SortKind)(a₀:List Keyed):Prop:=∀ x y,x ∈ a₀→y ∈ a₀→wpAny (model prog w) A (keyLt' κ x.1 y.1) (fun _ s'=>s'=s) (fun _ _=>False) s
noncomputable def Of(a₀:List Keyed)(xs:Array Keyed):Prop:=∀ x ∈ xs,x ∈ a₀
structure SB(a₀:List Keyed)(κ:SortKind)(N:Nat)(st:SortSt):Prop where
 size:(arrOf st).size=N
 of:Of a₀ (arrOf st)
 kind:kindOf st=κ
 failed:failedOf st=none
theorem wpS_elem{arr:Array Keyed}{i:Nat}{st:SortSt}{Q:Keyed→SortSt→Prop}(hO:Of a₀ arr)(hi:i < arr.size)(h:∀ x,x ∈ a₀→Q x st):wpS (model prog w) A E s (elem' arr i) Q st:=by
 rw [elem'_eq,getElem?_pos arr i hi]
 exact wpS_pure (h _ (hO _ (Array.getElem_mem hi)))
theorem wpS_lt{x y:Keyed}{st:SortSt}{Q:Option Bool→SortSt→Prop}(hc:Cmp prog w A s κ a₀)(hx:x ∈ a₀)(hy:y ∈ a₀)(hk:kindOf st=κ)(h:∀ b,Q (some b) st):wpS (model prog w) A E s (lt' x y) Q st:=by
 rw [lt'_eq]
 refine wpS_bind (wpS_get ?_)
 rw [hk]
 refine wpS_bind (wpS_lift (wpAny_attempt (wpAny_mono (hc x y hx hy) (fun b s' e=>⟨e,?_⟩) fun _ _ e=>e.elim)))
 exact wpS_pure (h b)
theorem wpS_ltAt{st:SortSt}{N i j:Nat}{Q:Option Bool→SortSt→Prop}(hc:Cmp prog w A s κ a₀)(hB:SB a₀ κ N st)(hi:i < N)(hj:j < N)(h:∀ b,Q (some b) st):wpS (model prog w) A E s (ltAt' i j) Q st:=by
 rw [ltAt'_eq]
 refine wpS_bind (wpS_get ?_)
 refine wpS_bind (wpS_elem hB.of (by rw [hB.size];exact hi) fun x hx=>wpS_bind (wpS_elem hB.of (by rw [hB.size];exact hj) fun y hy=>?_))
 exact wpS_lt hc hx hy hB.kind h
theorem SB.perm{N:Nat}{st:SortSt}(hB:SB a₀ κ N st){xs:Array Keyed}(hp:xs.Perm (arrOf st)):SB a₀ κ N (setArr st xs) :=
 ⟨hp.size_eq.trans hB.size,fun x hx=>hB.of x (hp.mem_iff.mp hx),hB.kind,hB.failed⟩
theorem wpS_rev{st:SortSt}{N i j:Nat}{Q:Unit→SortSt→Prop}(hB:SB a₀ κ N st)(h:∀ st',SB a₀ κ N st'→pendingOf st'=pendingOf st→Q () st'):wpS (model prog w) A E s (reverseSlice' i j) Q st :=
 wpS_reverse (h _ (hB.perm (mirror_perm _ _ _ _)) rfl)
theorem wpS_rule{σ:Type}{r:String}{Q:Unit→σ→Prop}{st:σ}(h:Q () st):wpS (model prog w) A E s (liftM (rule r):StateT σ Sem Unit) Q st:=wpS_lift (wpAny_rule ⟨rfl,h⟩)
theorem wpS_gallop{left:Bool}{key:Keyed}{arr:Array Keyed}{base n hint:Nat}{st:SortSt}{Q:Option Nat→SortSt→Prop}(hc:Cmp prog w A s κ a₀)(hO:Of a₀ arr)(hk:key ∈ a₀)(hs:kindOf st=κ)(hb:base + n ≤ arr.size)(hh:hint < n)
  (h:∀ k,k ≤ n→Q (some k) st):wpS (model prog w) A E s (gallop' left key arr base n hint) Q st:=by
 have bey:∀ i (Q:Option Bool→SortSt→Prop),i < n→(∀ b,Q (some b) st)→wpS (model prog w) A E s (do
   let x ← elem' arr (base + i)
   if left then lt' x key else return (← lt' key x).map (!·)) Q st:=fun i Q hi hq=>by
  refine wpS_bind (wpS_elem hO (by omega) fun x hx=>?_)
  split
  ·exact wpS_lt hc hx hk hs hq
  ·exact wpS_bind (wpS_lt hc hk hx hs fun b=>wpS_pure (hq _))
 refine wpS_bind (bey hint _ hh fun right=>?_)
 dsimp only
 cases right
 all_goals
  simp only [Bool.false_eq_true,if_true,if_false]
  refine wpS_bind (wpS_mono (wpS_forRange (I:=fun _ c st'=>st'=st∧∃ l o,c=(none,l,o)) (Q:=fun c st'=>st'=st∧∃ l o,c=(none,l,o)) (fun x c st' _ hx hI=>?_) (fun _ _ hI=>hI) ⟨rfl,_,_,rfl⟩) fun c st' hI=>?_)
  ·obtain ⟨rfl,l,o,rfl⟩:=hI
   dsimp only
   split
   ·exact wpS_pure ⟨rfl,_,_,rfl⟩
   ·refine wpS_bind (bey _ _ (by omega) fun b=>?_)
    dsimp only
    split
    ·exact wpS_pure ⟨rfl,_,_,rfl⟩
    ·exact wpS_pure ⟨rfl,_,_,rfl⟩
  ·obtain ⟨rfl,l,o,rfl⟩:=hI
   dsimp only
   refine wpS_bind (wpS_mono (wpS_forRange (I:=fun _ c st''=>st''=st'∧∃ l o,c=(none,l,o)∧o ≤ n) (Q:=fun c st''=>st''=st'∧∃ l o,c=(none,l,o)∧o ≤ n) (fun x c st'' _ hx hI=>?_) (fun _ _ hI=>hI) ⟨rfl,_,_,rfl,by omega⟩) fun c st'' hI=>?_)
   ·obtain ⟨rfl,l,o,rfl,ho⟩:=hI
    dsimp only
    split
    ·exact wpS_pure ⟨rfl,_,_,rfl,ho⟩
    ·refine wpS_bind (bey _ _ (by omega) fun b=>?_)
     dsimp only
     split
     ·exact wpS_pure ⟨rfl,_,_,rfl,ho⟩
     ·exact wpS_pure ⟨rfl,_,_,rfl,by omega⟩
   ·obtain ⟨rfl,l,o,rfl,ho⟩:=hI
    exact wpS_pure (h o ho)
theorem Of.push{xs:Array Keyed}{x:Keyed}(h:Of a₀ xs)(hx:x ∈ a₀):Of a₀ (xs.push x):=fun y hy=>by
 rcases Array.mem_push.mp hy with z | rfl
 ·exact h y z
 ·exact hx
theorem Of.app{xs ys:Array Keyed}(h:Of a₀ xs)(h':Of a₀ ys):Of a₀ (xs ++ ys):=fun y hy=>(Array.mem_append.mp hy).elim (h y) (h' y)
theorem Of.ext{xs:Array Keyed}{i j:Nat}(h:Of a₀ xs):Of a₀ (xs.extract i j):=fun y hy=>by
 obtain ⟨k,hk,e⟩:=Array.mem_extract_iff_getElem.mp hy
 exact h y (e ▸ Array.getElem_mem _)
theorem Of.rev{xs:Array Keyed}(h:Of a₀ xs):Of a₀ xs.reverse:=fun y hy=>h y (Array.mem_reverse.mp hy)
theorem Of.one{x:Keyed}(h:x ∈ a₀):Of a₀ #[x]:=fun y hy=>by rw [Array.mem_singleton.mp hy];exact h
theorem wpS_iteB{σ α:Type}{x y:Nat}{p q:StateT σ Sem α}{Q:α→σ→Prop}{st:σ}{M:Model}(h1:x=y→wpS M A E s p Q st)(h2:x ≠ y→wpS M A E s q Q st):wpS M A E s (if (x == y)=true then p else q) Q st:=by
 by_cases c:x=y
 ·rw [if_pos (by simpa using c)];exact h1 c
 ·rw [if_neg (by simpa using c)];exact h2 c
theorem wpS_ite{σ α:Type}{c:Prop} [Decidable c]{p q:StateT σ Sem α}{Q:α→σ→Prop}{st:σ}{M:Model}(h1:c→wpS M A E s p Q st)(h2:¬ c→wpS M A E s q Q st):wpS M A E s (if c then p else q) Q st:=by
 by_cases d:c
 ·rw [if_pos d];exact h1 d
 ·rw [if_neg d];exact h2 d
theorem wpS_dup1{σ α β:Type}{F:β→StateT σ Sem α}{c:Prop}{_:Decidable c}{p:StateT σ Sem α}{Q:α→σ→Prop}{st:σ}{M:Model}{z:β}(h:∀ z,wpS M A E s (F z) Q st)(hp:(∀ z,wpS M A E s (F z) Q st)→wpS M A E s p Q st):wpS M A E s (if c then p else F z) Q st :=
 wpS_ite (fun _=>hp h) fun _=>h z
theorem wpS_dup2{σ α β γ:Type}(R:β→γ→Prop){F:β→γ→StateT σ Sem α}{c:Prop}{_:Decidable c}{p:StateT σ Sem α}{Q:α→σ→Prop}{st:σ}{M:Model}{o:β}{i:γ}(hR:R o i)(h:∀ o i,R o i→wpS M A E s (F o i) Q st)
  (hp:c→(∀ o i,R o i→wpS M A E s (F o i) Q st)→wpS M A E s p Q st):wpS M A E s (if c then p else F o i) Q st :=
 wpS_ite (fun e=>hp e h) fun _=>h o i hR
noncomputable abbrev setG(st:SortSt)(g:Nat):SortSt:=SortSt.mk' (kindOf st) (arrOf st) (pendingOf st) g (failedOf st)
noncomputable def setMin':Nat→StateT SortSt Sem Unit:=sortPriv% PySem.Builtin.setMinGallop
theorem wpS_setG{st:SortSt}{g:Nat}{Q:Unit→SortSt→Prop}(h:Q () (setG st g)):wpS (model prog w) A E s (setMin' g) Q st:=wpS_modify h
noncomputable def Stp{β:Type}(a₀:List Keyed)(st:SortSt)(enc:Array Keyed→Nat→Nat→Nat→Nat→Nat→β)(RY RD:Array Keyed→Nat→Nat→Prop):ForInStep (Option (Array Keyed)×β)→SortSt→Prop
 |.done c,st'=>(∃ g r t,st'=setG st g∧c=(some r,t)∧Of a₀ r)∨∃ g o i j z u v,st'=setG st g∧c=(none,enc o i j z u v)∧RD o i j
 |.yield c,st'=>∃ g o i j z u v,st'=setG st g∧c=(none,enc o i j z u v)∧RY o i j
section
variable {β γ:Type} {st:SortSt} {enc:Array Keyed→Nat→Nat→Nat→Nat→Nat→β} {RY RD:Array Keyed→Nat→Nat→Prop} {g i j z u v:Nat} {o:Array Keyed}
theorem Stp.ret{r:Array Keyed}{t:β}(h:Of a₀ r):wpS (model prog w) A E s (pure (.done (some r,t)):StateT SortSt Sem _) (Stp a₀ st enc RY RD) (setG st g):=wpS_pure (.inl ⟨g,r,t,rfl,rfl,h⟩)
theorem Stp.brk(z u v:Nat)(h:RD o i j):wpS (model prog w) A E s (pure (.done (none,enc o i j z u v)):StateT SortSt Sem _) (Stp a₀ st enc RY RD) (setG st g):=wpS_pure (.inr ⟨g,o,i,j,z,u,v,rfl,rfl,h⟩)
theorem Stp.go(z u v:Nat)(h:RY o i j):wpS (model prog w) A E s (pure (.yield (none,enc o i j z u v)):StateT SortSt Sem _) (Stp a₀ st enc RY RD) (setG st g):=wpS_pure ⟨g,o,i,j,z,u,v,rfl,rfl,h⟩
theorem wpS_loopB{f:Nat→Option (Array Keyed)×β→StateT SortSt Sem (ForInStep (Option (Array Keyed)×β))}{k:Option (Array Keyed)×β→StateT SortSt Sem γ}{n:Nat}{Q:γ→SortSt→Prop}{c:β}
  (enc:Array Keyed→Nat→Nat→Nat→Nat→Nat→β) (R:Nat→Array Keyed→Nat→Nat→Prop) (R':Array Keyed→Nat→Nat→Prop) (z u v:Nat) (e0:c=enc o i j z u v) (h0:R 0 o i j) (hend:∀ o i j,R n o i j→R' o i j)
  (hret:∀ g r t,Of a₀ r→wpS (model prog w) A E s (k (some r,t)) Q (setG st g))
  (hstep:∀ x g o i j z u v,x < n→R x o i j→wpS (model prog w) A E s (f x (none,enc o i j z u v)) (Stp a₀ st enc (R (x + 1)) R') (setG st g))
  (hgo:∀ g o i j z u v,R' o i j→wpS (model prog w) A E s (k (none,enc o i j z u v)) Q (setG st g)) :
  wpS (model prog w) A E s (forIn [0:n] (none,c) f >>= k) Q (setG st g):=by
 subst e0
 refine wpS_bind (wpS_mono (wpS_forRange (I:=fun x c st'=>∃ g o i j z u v,st'=setG st g∧c=(none,enc o i j z u v)∧R x o i j)
  (Q:=fun c st'=>(∃ g r t,st'=setG st g∧c=(some r,t)∧Of a₀ r)∨∃ g o i j z u v,st'=setG st g∧c=(none,enc o i j z u v)∧R' o i j)
  (fun x c st' _ hx hI=>?_) (fun c st' hI=>?_) ⟨g,o,i,j,z,u,v,rfl,rfl,h0⟩) fun c st' hI=>?_)
 ·obtain ⟨g,o,i,j,z,u,v,rfl,rfl,hI⟩:=hI
  refine wpS_mono (hstep x g o i j z u v hx hI) fun r st' h'=>?_
  cases r <;> exact h'
 ·obtain ⟨g,o,i,j,z,u,v,rfl,rfl,hI⟩:=hI
  exact .inr ⟨g,o,i,j,z,u,v,rfl,rfl,hend _ _ _ (by rwa [Nat.zero_max] at hI)⟩
 ·rcases hI with ⟨g,r,t,rfl,rfl,ho⟩ | ⟨g,o,i,j,z,u,v,rfl,rfl,hI⟩
  ·exact hret g r t ho
  ·exact hgo g o i j z u v hI
end
theorem lo1{A i k:Nat}(d:i + 1 < A)(hk:k ≤ A - i)(e1:i + k + 1 ≠ A)(e2:i + k ≠ A):i + k + 1 < A:=by omega
theorem lo2{B j k:Nat}(d:j < B)(hk:k ≤ B - j)(e:j + k ≠ B):j + k < B:=by omega
theorem wpS_mergeLo{a b:Array Keyed}{st:SortSt}{Q:Array Keyed→SortSt→Prop}(hc:Cmp prog w A s κ a₀)(ha:Of a₀ a)(hb:Of a₀ b)(hs:kindOf st=κ)(na:0 < a.size)(nb:0 < b.size)
  (h:∀ out g,Of a₀ out→Q out (setG st g)):wpS (model prog w) A E s (mergeLo' a b) Q st:=by
 refine wpS_bind (wpS_rule ?_)
 refine wpS_bind (wpS_elem hb nb fun x hx=>?_)
 have h1:Of a₀ #[x]:=.one hx
 refine wpS_iteB (fun _=>wpS_pure (h _ _ ((h1.app ha.ext).app hb.ext))) fun e1=>?_
 refine wpS_iteB (fun _=>wpS_pure (h _ _ ((h1.app hb.ext).app ha.ext))) fun e2=>?_
 refine wpS_bind (wpS_get ?_)
 refine wpS_loopB (a₀:=a₀) (st:=st) (g:=gallopOf st) (fun o i j z _ _=>(o,i,j,z)) (fun x o i j=>Of a₀ o∧i + 1 < a.size∧j < b.size∧x < i + j) (fun _ _ _=>False) _ 0 0 rfl ⟨h1,by omega,by omega,by omega⟩ (fun _ _ _ ⟨_,_,_,_⟩=>by omega) (fun g r t hr=>wpS_pure (h _ _ hr)) (fun x g out ia ib m _ _ hx ⟨ho,b1,b2,b3⟩=>?_) (fun _ _ _ _ _ _ _ z=>z.elim)
 refine wpS_loopB (a₀:=a₀) (st:=st) (fun o i j _ u v=>(o,i,j,u,v)) (fun y o i j=>Of a₀ o∧i + 1 < a.size∧j < b.size∧ia + ib + y ≤ i + j) (fun o i j=>Of a₀ o∧i + 1 < a.size∧j < b.size∧ia + ib + 1 ≤ i + j) 0 0 0 rfl ⟨ho,b1,b2,Nat.le_refl _⟩ (fun _ _ _ ⟨y1,y2,y3,y4⟩=>⟨y1,y2,y3,by omega⟩) (fun g r t hr=>Stp.ret hr) (fun y g out i j _ u v hy ⟨ho,d1,d2,d3⟩=>?_) (fun g out i j z u v ⟨ho,d1,d2,d3⟩=>?_)
 ·refine wpS_bind (wpS_elem (i:=j) hb d2 fun x hx=>wpS_bind (wpS_elem (i:=i) ha (Nat.lt_of_succ_lt d1) fun q hq=>wpS_bind (wpS_lt hc hx hq hs fun z=>?_)))
  cases z
  ·refine wpS_bind (wpS_elem (i:=i) ha (Nat.lt_of_succ_lt d1) fun q hq=>?_)
   refine wpS_iteB (fun _=>Stp.ret (((ho.push hq).app hb.ext).app ha.ext)) fun e1=>?_
   have dd:i + 1 + 1 < a.size:=Nat.lt_of_le_of_ne d1 e1
   have d4:ia + ib + (y + 1) ≤ i + 1 + j:=by omega
   exact wpS_ite (fun _=>Stp.brk 0 _ _ ⟨ho.push hq,dd,d2,Nat.le_trans (Nat.add_le_add_left (Nat.le_add_left 1 y) _) d4⟩) fun _=>Stp.go 0 _ _ ⟨ho.push hq,dd,d2,d4⟩
  ·refine wpS_bind (wpS_elem (i:=j) hb d2 fun q hq=>?_)
   refine wpS_iteB (fun _=>Stp.ret (((ho.push hq).app ha.ext).app hb.ext)) fun e1=>?_
   have dd:j + 1 < b.size:=Nat.lt_of_le_of_ne d2 e1
   have d4:ia + ib + (y + 1) ≤ i + (j + 1):=Nat.succ_le_succ d3
   exact wpS_ite (fun _=>Stp.brk 0 _ _ ⟨ho.push hq,d1,dd,Nat.le_trans (Nat.add_le_add_left (Nat.le_add_left 1 y) _) d4⟩) fun _=>Stp.go 0 _ _ ⟨ho.push hq,d1,dd,d4⟩
 ·refine wpS_bind (wpS_rule ?_)
  refine wpS_loopB (a₀:=a₀) (st:=st) (fun o i j z u v=>(o,i,j,z,u,v)) (fun _ o i j=>Of a₀ o∧i + 1 < a.size∧j < b.size∧ia + ib + 1 ≤ i + j) (fun o i j=>Of a₀ o∧i + 1 < a.size∧j < b.size∧ia + ib + 1 ≤ i + j) _ _ _ rfl ⟨ho,d1,d2,d3⟩ (fun _ _ _ hR=>hR) (fun g r t hr=>Stp.ret hr) (fun _ g out i j z u v _ ⟨ho,d1,d2,d3⟩=>?_)
   (fun g out i j z u v ⟨ho,d1,d2,d3⟩=>wpS_bind (wpS_setG (Stp.go _ 0 0 ⟨ho,d1,d2,Nat.lt_of_le_of_lt b3 d3⟩)))
  apply wpS_dup1 (z:=z)
  case hp=>exact fun key=>key (z - 1)
  intro z
  refine wpS_bind (wpS_setG (wpS_bind (wpS_elem (i:=j) hb d2 fun x hx=>wpS_bind (wpS_gallop (base:=i) (n:=a.size - i) hc ha hx hs (by omega) (by omega) fun k hk=>?_))))
  dsimp only
  apply wpS_dup2 (fun o i=>Of a₀ o∧i + 1 < a.size∧ia + ib + 1 ≤ i + j) (o:=out) (i:=i) ⟨ho,d1,d3⟩
  case hp=>exact fun hk0 key=>wpS_iteB (fun _=>Stp.ret (((ho.app ha.ext).app hb.ext).app ha.ext)) fun e1=>wpS_iteB (fun _=>Stp.ret (((ho.app ha.ext).app ha.ext).app hb.ext)) fun e2=>key _ _ ⟨ho.app ha.ext,lo1 d1 hk e1 e2,Nat.le_trans d3 (Nat.add_le_add_right (Nat.le_add_right _ _) _)⟩
  rintro o i ⟨ho,d1,d3⟩
  refine wpS_bind (wpS_elem hb d2 fun x hx=>?_)
  have ho':=ho.push hx
  refine wpS_iteB (fun _=>Stp.ret ((ho'.app ha.ext).app hb.ext)) fun e1=>?_
  have d2':j + 1 < b.size:=Nat.lt_of_le_of_ne d2 e1
  have d3':ia + ib + 1 ≤ i + (j + 1):=Nat.le_succ_of_le d3
  generalize o.push x=o at ho' ⊢
  generalize j + 1=j at d2' d3' ⊢
  refine wpS_bind (wpS_elem ha (Nat.lt_of_succ_lt d1) fun y hy=>wpS_bind (wpS_gallop hc hb hy hs (by omega) (by omega) fun k' hk'=>?_))
  dsimp only
  apply wpS_dup2 (fun o j=>Of a₀ o∧j < b.size∧ia + ib + 1 ≤ i + j) (o:=o) (i:=j) ⟨ho',d2',d3'⟩
  case hp=>exact fun hk1 key=>wpS_iteB (fun _=>Stp.ret (((ho'.app hb.ext).app ha.ext).app hb.ext)) fun e1=>key _ _ ⟨ho'.app hb.ext,lo2 d2' hk' e1,Nat.le_trans d3' (Nat.add_le_add_left (Nat.le_add_right _ _) _)⟩
  rintro o j ⟨ho',d2',d3'⟩
  refine wpS_bind (wpS_elem ha (Nat.lt_of_succ_lt d1) fun y hy=>?_)
  have ho2:=ho'.push hy
  refine wpS_iteB (fun _=>Stp.ret ((ho2.app hb.ext).app ha.ext)) fun e1=>?_
  have d1':i + 1 + 1 < a.size:=Nat.lt_of_le_of_ne d1 e1
  have d3':ia + ib + 1 ≤ i + 1 + j:=Nat.le_trans d3' (Nat.add_le_add_right (Nat.le_succ _) _)
  exact wpS_ite (fun _=>Stp.brk _ _ _ ⟨ho2,d1',d2',d3'⟩) fun _=>Stp.go _ _ _ ⟨ho2,d1',d2',d3'⟩
theorem hi1{A B i j:Nat}(d:1 ≤ i∧i ≤ A∧2 ≤ j∧j ≤ B):i - 1 < A:=by omega
theorem hi2{A B i j:Nat}(d:1 ≤ i∧i ≤ A∧2 ≤ j∧j ≤ B):j - 1 < B:=by omega
theorem hi3{A B i j y c:Nat}(d:1 ≤ i∧i ≤ A∧2 ≤ j∧j ≤ B)(e:j - 1 ≠ 1)(h:i + j + y ≤ c):(1 ≤ i∧i ≤ A∧2 ≤ j - 1∧j - 1 ≤ B)∧i + (j - 1) + (y + 1) ≤ c:=by
 obtain ⟨d1,d2,d3,d4⟩:=d
 cases j with
 |zero=>cases d3
 |succ k=>exact ⟨⟨d1,d2,Nat.lt_of_le_of_ne (Nat.le_of_succ_le_succ d3) (Ne.symm e),Nat.le_of_succ_le d4⟩,Nat.le_trans (Nat.le_of_eq (Nat.succ_add_eq_add_succ (i + k) y).symm) h⟩
theorem hi4{A B i j y c:Nat}(d:1 ≤ i∧i ≤ A∧2 ≤ j∧j ≤ B)(e:i - 1 ≠ 0)(h:i + j + y ≤ c):(1 ≤ i - 1∧i - 1 ≤ A∧2 ≤ j∧j ≤ B)∧i - 1 + j + (y + 1) ≤ c:=by
 obtain ⟨d1,d2,d3,d4⟩:=d
 cases i with
 |zero=>cases d1
 |succ k =>
  have e9:k + 1 + j + y=k + j + (y + 1):=by rw [Nat.succ_add k j];exact Nat.succ_add_eq_add_succ (k + j) y
  exact ⟨⟨Nat.pos_of_ne_zero e,Nat.le_of_succ_le d2,d3,d4⟩,e9 ▸ h⟩
theorem hi5{x i j ia ib n:Nat}(h:i + j + 1 ≤ ia + ib)(h':x + ia + ib < n):x + 1 + i + j < n:=by omega
theorem hi6{A B i j c k:Nat}(d:1 ≤ i∧i ≤ A∧2 ≤ j∧j ≤ B)(hk:k ≤ i)(e:k ≠ 0)(h:i + j + 1 ≤ c):(1 ≤ k∧k ≤ A∧2 ≤ j∧j ≤ B)∧k + j + 1 ≤ c:=⟨⟨Nat.pos_of_ne_zero e,Nat.le_trans hk d.2.1,d.2.2.1,d.2.2.2⟩,Nat.le_trans (Nat.succ_le_succ (Nat.add_le_add_right hk j)) h⟩
theorem hi7{A B i j c:Nat}(d:1 ≤ i∧i ≤ A∧2 ≤ j∧j ≤ B)(e:j - 1 ≠ 1)(h:i + j + 1 ≤ c):(1 ≤ i∧i ≤ A∧2 ≤ j - 1∧j - 1 ≤ B)∧i + (j - 1) + 1 ≤ c:=by
 obtain ⟨d1,d2,d3,d4⟩:=d
 cases j with
 |zero=>cases d3
 |succ k=>exact ⟨⟨d1,d2,Nat.lt_of_le_of_ne (Nat.le_of_succ_le_succ d3) (Ne.symm e),Nat.le_of_succ_le d4⟩,Nat.le_of_succ_le h⟩
theorem hi8{A B i j c k:Nat}(d:(1 ≤ i∧i ≤ A∧2 ≤ j∧j ≤ B)∧i + j + 1 ≤ c)(hk:k ≤ j)(e:k ≠ 1)(e':k ≠ 0):(1 ≤ i∧i ≤ A∧2 ≤ k∧k ≤ B)∧i + k + 1 ≤ c:=⟨⟨d.1.1,d.1.2.1,Nat.lt_of_le_of_ne (Nat.pos_of_ne_zero e') (Ne.symm e),Nat.le_trans hk d.1.2.2.2⟩,Nat.le_trans (Nat.succ_le_succ (Nat.add_le_add_left hk i)) d.2⟩
theorem hi9{A B i j c:Nat}(d:1 ≤ i∧i ≤ A∧2 ≤ j∧j ≤ B)(e:i - 1 ≠ 0)(h:i + j + 1 ≤ c):(1 ≤ i - 1∧i - 1 ≤ A∧2 ≤ j∧j ≤ B)∧i - 1 + j + 1 ≤ c:=by
 obtain ⟨d1,d2,d3,d4⟩:=d
 cases i with
 |zero=>cases d1
 |succ k =>
  rw [Nat.succ_add k j] at h
  exact ⟨⟨Nat.pos_of_ne_zero e,Nat.le_of_succ_le d2,d3,d4⟩,Nat.le_of_succ_le h⟩
theorem wpS_mergeHi{a b:Array Keyed}{st:SortSt}{Q:Array Keyed→SortSt→Prop}(hc:Cmp prog w A s κ a₀)(ha:Of a₀ a)(hb:Of a₀ b)(hs:kindOf st=κ)(na:0 < a.size)(nb:0 < b.size)
  (h:∀ out g,Of a₀ out→Q out (setG st g)):wpS (model prog w) A E s (mergeHi' a b) Q st:=by
 refine wpS_bind (wpS_rule ?_)
 refine wpS_bind (wpS_elem ha (Nat.sub_lt na Nat.one_pos) fun x hx=>?_)
 have h1:Of a₀ #[x]:=.one hx
 refine wpS_iteB (fun _=>wpS_pure (h _ _ ((ha.ext.app hb.ext).app h1.rev))) fun e1=>?_
 refine wpS_iteB (fun _=>wpS_pure (h _ _ ((hb.ext.app ha.ext).app h1.rev))) fun e2=>?_
 refine wpS_bind (wpS_get ?_)
 refine wpS_loopB (a₀:=a₀) (st:=st) (g:=gallopOf st) (fun o i j z _ _=>(i,j,o,z)) (fun x o i j=>Of a₀ o∧(1 ≤ i∧i ≤ a.size∧2 ≤ j∧j ≤ b.size)∧x + i + j < a.size + b.size) (fun _ _ _=>False) _ 0 0 rfl ⟨h1,by omega,by omega⟩ (fun _ _ _ ⟨_,_,_⟩=>by omega) (fun g r t hr=>wpS_pure (h _ _ hr)) (fun x g out ia ib m _ _ hx ⟨ho,bb,b3⟩=>?_) (fun _ _ _ _ _ _ _ z=>z.elim)
 refine wpS_loopB (a₀:=a₀) (st:=st) (fun o i j _ u v=>(i,j,o,u,v)) (fun y o i j=>Of a₀ o∧(1 ≤ i∧i ≤ a.size∧2 ≤ j∧j ≤ b.size)∧i + j + y ≤ ia + ib) (fun o i j=>Of a₀ o∧(1 ≤ i∧i ≤ a.size∧2 ≤ j∧j ≤ b.size)∧i + j + 1 ≤ ia + ib) 0 0 0 rfl ⟨ho,bb,Nat.le_refl _⟩ (fun _ _ _ ⟨y1,y2,y4⟩=>⟨y1,y2,by omega⟩) (fun g r t hr=>Stp.ret hr) (fun y g out i j _ u v hy ⟨ho,dd,d3⟩=>?_) (fun g out i j z u v ⟨ho,dd,d3⟩=>?_)
 ·have i1:i - 1 < a.size:=hi1 dd
  have j1:j - 1 < b.size:=hi2 dd
  refine wpS_bind (wpS_elem (i:=j - 1) hb j1 fun x hx=>wpS_bind (wpS_elem (i:=i - 1) ha i1 fun q hq=>wpS_bind (wpS_lt hc hx hq hs fun z=>?_)))
  cases z
  ·refine wpS_bind (wpS_elem (i:=j - 1) hb j1 fun q hq=>?_)
   refine wpS_iteB (fun _=>Stp.ret ((hb.ext.app ha.ext).app (ho.push hq).rev)) fun e1=>?_
   have d4:(1 ≤ i∧i ≤ a.size∧2 ≤ j - 1∧j - 1 ≤ b.size)∧i + (j - 1) + (y + 1) ≤ ia + ib:=hi3 dd e1 d3
   exact wpS_ite (fun _=>Stp.brk 0 _ _ ⟨ho.push hq,d4.1,Nat.le_trans (Nat.add_le_add_left (Nat.le_add_left 1 y) _) d4.2⟩) fun _=>Stp.go 0 _ _ ⟨ho.push hq,d4⟩
  ·refine wpS_bind (wpS_elem (i:=i - 1) ha i1 fun q hq=>?_)
   refine wpS_iteB (fun _=>Stp.ret ((ha.ext.app hb.ext).app (ho.push hq).rev)) fun e1=>?_
   have d4:(1 ≤ i - 1∧i - 1 ≤ a.size∧2 ≤ j∧j ≤ b.size)∧i - 1 + j + (y + 1) ≤ ia + ib:=hi4 dd e1 d3
   exact wpS_ite (fun _=>Stp.brk 0 _ _ ⟨ho.push hq,d4.1,Nat.le_trans (Nat.add_le_add_left (Nat.le_add_left 1 y) _) d4.2⟩) fun _=>Stp.go 0 _ _ ⟨ho.push hq,d4⟩
 ·refine wpS_bind (wpS_rule ?_)
  refine wpS_loopB (a₀:=a₀) (st:=st) (fun o i j z u v=>(i,j,o,z,u,v)) (fun _ o i j=>Of a₀ o∧(1 ≤ i∧i ≤ a.size∧2 ≤ j∧j ≤ b.size)∧i + j + 1 ≤ ia + ib) (fun o i j=>Of a₀ o∧(1 ≤ i∧i ≤ a.size∧2 ≤ j∧j ≤ b.size)∧i + j + 1 ≤ ia + ib) _ _ _ rfl ⟨ho,dd,d3⟩ (fun _ _ _ hR=>hR) (fun g r t hr=>Stp.ret hr) (fun _ g out i j z u v _ ⟨ho,dd,d3⟩=>?_)
   (fun g out i j z u v ⟨ho,dd,d3⟩=>wpS_bind (wpS_setG (Stp.go _ 0 0 ⟨ho,dd,hi5 d3 b3⟩)))
  apply wpS_dup1 (z:=z)
  case hp=>exact fun key=>key (z - 1)
  intro z
  have j1:j - 1 < b.size:=hi2 dd
  refine wpS_bind (wpS_setG (wpS_bind (wpS_elem (i:=j - 1) hb j1 fun x hx=>wpS_bind (wpS_gallop (base:=0) (n:=i) (hint:=i - 1) hc ha hx hs ((Nat.zero_add i).symm ▸ dd.2.1) (Nat.sub_lt dd.1 Nat.one_pos) fun k hk=>?_))))
  dsimp only
  generalize i - k=e
  apply wpS_dup2 (fun i o=>Of a₀ o∧(1 ≤ i∧i ≤ a.size∧2 ≤ j∧j ≤ b.size)∧i + j + 1 ≤ ia + ib) (o:=i) (i:=out) ⟨ho,dd,d3⟩
  case hp=>exact fun hk0 key=>wpS_iteB (fun _=>Stp.ret ((ha.ext.app hb.ext).app (ho.app ha.ext.rev).rev)) fun e1=>key k (out ++ (a.extract k i).reverse) ⟨ho.app ha.ext.rev,hi6 dd hk e1 d3⟩
  rintro i o ⟨ho,dd,d3⟩
  refine wpS_bind (wpS_elem hb j1 fun x hx=>?_)
  have ho':=ho.push hx
  refine wpS_iteB (fun _=>Stp.ret ((hb.ext.app ha.ext).app ho'.rev)) fun e1=>?_
  have d4:(1 ≤ i∧i ≤ a.size∧2 ≤ j - 1∧j - 1 ≤ b.size)∧i + (j - 1) + 1 ≤ ia + ib:=hi7 dd e1 d3
  generalize o.push x=o at ho' ⊢
  generalize j - 1=j at d4 ⊢
  refine wpS_bind (wpS_elem ha (hi1 dd) fun y hy=>wpS_bind (wpS_gallop hc hb hy hs ((Nat.zero_add j).symm ▸ d4.1.2.2.2) (Nat.sub_lt (Nat.lt_of_succ_lt d4.1.2.2.1) Nat.one_pos) fun k' hk'=>?_))
  dsimp only
  generalize j - k'=e'
  apply wpS_dup2 (fun j o=>Of a₀ o∧(1 ≤ i∧i ≤ a.size∧2 ≤ j∧j ≤ b.size)∧i + j + 1 ≤ ia + ib) (o:=j) (i:=o) ⟨ho',d4⟩
  case hp=>exact fun hk1 key=>wpS_iteB (fun _=>Stp.ret ((hb.ext.app ha.ext).app (ho'.app hb.ext.rev).rev)) fun e1=>wpS_iteB (fun _=>Stp.ret ((ha.ext.app hb.ext).app (ho'.app hb.ext.rev).rev)) fun e2=>key k' (o ++ (b.extract k' j).reverse) ⟨ho'.app hb.ext.rev,hi8 d4 hk' e1 e2⟩
  rintro j o ⟨ho',dd',d3'⟩
  refine wpS_bind (wpS_elem ha (hi1 dd) fun y hy=>?_)
  have ho2:=ho'.push hy
  refine wpS_iteB (fun _=>Stp.ret ((ha.ext.app hb.ext).app ho2.rev)) fun e1=>?_
  have d4:(1 ≤ i - 1∧i - 1 ≤ a.size∧2 ≤ j∧j ≤ b.size)∧i - 1 + j + 1 ≤ ia + ib:=hi9 dd' e1 d3'
  exact wpS_ite (fun _=>Stp.brk _ _ _ ⟨ho2,d4⟩) fun _=>Stp.go _ _ _ ⟨ho2,d4⟩
end
end SR
namespace SR
open PySem PyProof.Rows
noncomputable def RunsFrom:Nat→List (Nat×Nat×Nat)→Nat→Prop
 |a,[],b=>a=b
 |a,x :: r,b=>x.1=a∧1 ≤ x.2.1∧RunsFrom (a + x.2.1) r b
theorem RunsFrom.le:∀ {l:List (Nat×Nat×Nat)} {a b:Nat},RunsFrom a l b→a ≤ b
 |[],_,_,h=>Nat.le_of_eq h
 |x :: r,a,b,h=>Nat.le_trans (Nat.le_add_right _ _) h.2.2.le
theorem RunsFrom.push{n q:Nat}(hn:1 ≤ n):∀ {l:List (Nat×Nat×Nat)} {a b:Nat},RunsFrom a l b→RunsFrom a (l ++ [(b,n,q)]) (b + n)
 |[],a,b,h=>by obtain rfl:a=b:=h;exact ⟨rfl,hn,rfl⟩
 |x :: r,a,b,h=>⟨h.1,h.2.1,h.2.2.push hn⟩
theorem RunsFrom.mod{f:Nat×Nat×Nat→Nat×Nat×Nat}(hf:∀ x,(f x).1=x.1∧(f x).2.1=x.2.1):∀ {l:List (Nat×Nat×Nat)} {a b:Nat} (i:Nat),RunsFrom a l b→RunsFrom a (l.modify i f) b
 |[],a,b,i,h=>by cases i <;> exact h
 |x :: r,a,b,0,h=>by
  show (f x).1=a∧1 ≤ (f x).2.1∧RunsFrom (a + (f x).2.1) r b
  rw [(hf x).1,(hf x).2];exact h
 |x :: r,a,b,i + 1,h=>⟨h.1,h.2.1,RunsFrom.mod hf i h.2.2⟩
theorem RunsFrom.join{sa na pw sb nb q:Nat}:∀ {l:List (Nat×Nat×Nat)} {a b:Nat} (i:Nat),RunsFrom a l b→l[i]?=some (sa,na,pw)→l[i + 1]?=some (sb,nb,q) →
  (sb=sa + na∧1 ≤ na∧1 ≤ nb∧sb + nb ≤ b)∧RunsFrom a ((l.set i (sa,na + nb,pw)).eraseIdx (i + 1)) b
 |[],_,_,_,_,e,_=>by simp at e
 |[x],_,_,0,_,_,e=>by simp at e
 |x :: y :: r,a,b,0,h,e,e'=>by
  simp at e e'
  subst e e'
  obtain ⟨h1,h2,h3,h4,h5⟩:=h
  have:=h5.le
  exact ⟨⟨by dsimp only at *;omega,h2,h4,by dsimp only at *;omega⟩,h1,Nat.le_trans h2 (Nat.le_add_right _ _),by rw [← Nat.add_assoc];exact h5⟩
 |x :: r,a,b,i + 1,h,e,e'=>by
  have ih:=RunsFrom.join i h.2.2 (by simpa using e) (by simpa using e')
  exact ⟨ih.1,h.1,h.2.1,ih.2⟩
section
variable {prog:Program} {w:World} {A:Around} {E:Value→Shared→Prop} {s:Shared} {a₀:List Keyed} {κ:SortKind} {N:Nat}
structure SR'(a₀:List Keyed)(κ:SortKind)(N:Nat)(lo:Nat)(st:SortSt):Prop where
 b:SB a₀ κ N st
 r:RunsFrom 0 (pendingOf st).toList lo
theorem set_of{sa:Nat}:∀ {l:List (Keyed×Nat)} {xs:Array Keyed},(∀ x ∈ l,x.1 ∈ a₀)→Of a₀ xs→xs.size=N→Of a₀ (l.foldl (fun a x=>a.setIfInBounds (sa + x.2) x.1) xs)∧(l.foldl (fun a x=>a.setIfInBounds (sa + x.2) x.1) xs).size=N
 |[],_,_,h,z=>⟨h,z⟩
 |x :: l,xs,hl,h,z=>by
  refine set_of (l:=l) (fun y hy=>hl y (List.mem_cons_of_mem _ hy)) (fun y hy=>?_) (by rw [Array.size_setIfInBounds];exact z)
  rcases Array.mem_or_eq_of_mem_setIfInBounds hy with c | rfl
  ·exact h y c
  ·exact hl x (List.mem_cons_self ..)
theorem wpS_mergeAt{st:SortSt}{i lo:Nat}{Q:Bool→SortSt→Prop}(hc:Cmp prog w A s κ a₀)(hB:SR' a₀ κ N lo st)(hlo:lo ≤ N)(hi:i + 1 < (pendingOf st).size)(h:∀ b st',SR' a₀ κ N lo st'→Q b st'):wpS (model prog w) A E s (mergeAt' i) Q st:=by
 refine wpS_bind (wpS_get ?_)
 obtain ⟨⟨sa,na,pw⟩,e1⟩:∃ x,(pendingOf st)[i]?=some x:=⟨_,getElem?_pos (pendingOf st) i (Nat.lt_of_succ_lt hi)⟩
 obtain ⟨⟨sb,nb,q⟩,e2⟩:∃ x,(pendingOf st)[i + 1]?=some x:=⟨_,getElem?_pos (pendingOf st) (i + 1) hi⟩
 obtain ⟨⟨j1,j2,j3,j4⟩,jr⟩:=hB.r.join i (by rw [Array.getElem?_toList];exact e1) (by rw [Array.getElem?_toList];exact e2)
 rw [e1,e2]
 have hz:=hB.b.size
 have hO:=hB.b.of
 have hB':SR' a₀ κ N lo (SortSt.mk' (kindOf st) (arrOf st) (((pendingOf st).setIfInBounds i (sa,na + nb,pw)).eraseIdxIfInBounds (i + 1)) (gallopOf st) (failedOf st)):=by
  refine ⟨⟨hz,hO,hB.b.kind,hB.b.failed⟩,?_⟩
  show RunsFrom 0 (((pendingOf st).setIfInBounds i (sa,na + nb,pw)).eraseIdxIfInBounds (i + 1)).toList lo
  rw [Array.toList_eraseIdxIfInBounds,Array.toList_setIfInBounds]
  exact jr
 have h9:sb + nb ≤ (arrOf st).size:=by rw [hz];exact Nat.le_trans j4 hlo
 have b1:sb < (arrOf st).size∧sa + na ≤ (arrOf st).size∧sb + nb ≤ (arrOf st).size:=⟨Nat.lt_of_lt_of_le (Nat.lt_add_of_pos_right j3) h9,Nat.le_trans (Nat.le_of_eq j1.symm) (Nat.le_trans (Nat.le_add_right _ _) h9),h9⟩
 refine wpS_bind (wpS_modify (wpS_bind (wpS_elem (arr:=arrOf st) (i:=sb) hO b1.1 fun x hx=>wpS_bind (wpS_gallop (arr:=arrOf st) hc hO hx hB.b.kind b1.2.1 j2 fun k hk=>?_))))
 refine wpS_iteB (fun _=>wpS_pure (h _ _ hB')) fun e3=>?_
 have e9:sa + k + (na - k)=sb:=by rw [Nat.add_assoc,Nat.add_sub_cancel' hk,j1]
 have b2:sa + k + (na - k) - 1 < (arrOf st).size∧nb - 1 < nb:=⟨by rw [e9];exact Nat.lt_of_le_of_lt (Nat.sub_le ..) b1.1,Nat.sub_lt j3 Nat.one_pos⟩
 refine wpS_bind (wpS_elem (arr:=arrOf st) hO b2.1 fun x hx=>wpS_bind (wpS_gallop (arr:=arrOf st) hc hO hx hB.b.kind b1.2.2 b2.2 fun k' hk'=>?_))
 refine wpS_iteB (fun _=>wpS_pure (h _ _ hB')) fun e4=>?_
 have fin:∀ (out:Array Keyed) g,Of a₀ out→SR' a₀ κ N lo (SortSt.mk' (kindOf st) (out.toList.zipIdx.foldl (fun a x=>a.setIfInBounds (sa + k + x.2) x.1) (arrOf st)) (((pendingOf st).setIfInBounds i (sa,na + nb,pw)).eraseIdxIfInBounds (i + 1)) g (failedOf st)):=fun out g ho=>by
  have:=set_of (a₀:=a₀) (sa:=sa + k) (l:=out.toList.zipIdx) (xs:=arrOf st) (fun x hx=>ho _ (Array.mem_toList_iff.mp (List.fst_mem_of_mem_zipIdx hx))) hO hz
  exact ⟨⟨this.2,this.1,hB'.b.kind,hB'.b.failed⟩,hB'.r⟩
 have n1:0 < ((arrOf st).extract (sa + k) sb).size:=by
  rw [Array.size_extract,Nat.min_eq_left (Nat.le_of_lt b1.1)]
  exact Nat.sub_pos_of_lt (by rw [j1];exact Nat.add_lt_add_left (Nat.lt_of_sub_ne_zero e3) sa)
 have n2:0 < ((arrOf st).extract sb (sb + k')).size:=by
  rw [Array.size_extract,Nat.min_eq_left (Nat.le_trans (Nat.add_le_add_left hk' sb) b1.2.2),Nat.add_sub_cancel_left]
  exact Nat.pos_of_ne_zero e4
 exact wpS_ite (fun _=>wpS_bind (wpS_mergeLo hc hO.ext hO.ext hB.b.kind n1 n2 fun out g ho=>wpS_bind (wpS_modify (wpS_bind (wpS_get (wpS_pure (h _ _ (fin out g ho))))))))
  fun _=>wpS_bind (wpS_mergeHi hc hO.ext hO.ext hB.b.kind n1 n2 fun out g ho=>wpS_bind (wpS_modify (wpS_bind (wpS_get (wpS_pure (h _ _ (fin out g ho)))))))
theorem wpS_dupS{σ α:Type}{M:Model}(R:σ→Prop){F:StateT σ Sem α}{c:Prop}{_:Decidable c}{p:StateT σ Sem α}{Q:α→σ→Prop}{st:σ}(hR:R st)(h:∀ st,R st→wpS M A E s F Q st)(hp:c→(∀ st,R st→wpS M A E s F Q st)→wpS M A E s p Q st):wpS M A E s (if c then p else F) Q st :=
 wpS_ite (fun e=>hp e h) fun _=>h st hR
theorem wpS_dupV{σ α β:Type}{M:Model}(R:β→σ→Prop){F:β→StateT σ Sem α}{c:Prop}{_:Decidable c}{p:StateT σ Sem α}{Q:α→σ→Prop}{st:σ}{o:β}(hR:R o st)(h:∀ o st,R o st→wpS M A E s (F o) Q st)(hp:c→(∀ o st,R o st→wpS M A E s (F o) Q st)→wpS M A E s p Q st):wpS M A E s (if c then p else F o) Q st :=
 wpS_ite (fun e=>hp e h) fun _=>h o st hR
theorem wpS_cnt{σ β γ δ:Type}{M:Model}(R:σ→Prop)(enc:Nat→β→γ){f:Nat→Option δ×γ→StateT σ Sem (ForInStep (Option δ×γ))}{k:Option δ×γ→StateT σ Sem α}{Q:α→σ→Prop}{a b:Nat}{st:σ}{y:β}{c:γ}(e0:c=enc a y)(h0:R st)(hab:a ≤ b)
  (hstep:∀ n y st,a ≤ n→n < b→R st→∀ Q':ForInStep (Option δ×γ)→σ→Prop,(∀ y st',R st'→Q' (.done (none,enc n y)) st')→(∀ y st',R st'→Q' (.yield (none,enc (n + 1) y)) st')→wpS M A E s (f n (none,enc n y)) Q' st)
  (h:∀ n y st,a ≤ n→n ≤ b→R st→wpS M A E s (k (none,enc n y)) Q st):wpS M A E s (forIn [a:b] (none,c) f >>= k) Q st:=by
 subst e0
 refine wpS_bind (wpS_mono (wpS_forRange (I:=fun n c st=>∃ y,c=(none,enc n y)∧R st) (Q:=fun c st=>∃ n y,a ≤ n∧n ≤ b∧c=(none,enc n y)∧R st) (fun n c st ha hb hI=>?_) (fun c st hI=>?_) ⟨y,rfl,h0⟩) fun c st hI=>?_)
 ·obtain ⟨y,rfl,hR⟩:=hI
  exact hstep n y st ha hb hR _ (fun y st hR=>⟨n,y,ha,Nat.le_of_lt hb,rfl,hR⟩) fun y st hR=>⟨y,rfl,hR⟩
 ·obtain ⟨y,rfl,hR⟩:=hI
  exact ⟨_,y,by omega,by omega,rfl,hR⟩
 ·obtain ⟨n,y,ha,hb,rfl,hR⟩:=hI
  exact h n y st ha hb hR
theorem SR'.rev{st:SortSt}{lo i j:Nat}{Q:Unit→SortSt→Prop}(hB:SR' a₀ κ N lo st)(h:∀ st',SR' a₀ κ N lo st'→Q () st'):wpS (model prog w) A E s (reverseSlice' i j) Q st :=
 wpS_rev hB.b fun st' b e=>h st' ⟨b,by rw [e];exact hB.r⟩
theorem wpS_count{st:SortSt}{lo nrem:Nat}{Q:Option Nat→SortSt→Prop}(hc:Cmp prog w A s κ a₀)(hB:SR' a₀ κ N lo st)(hn:lo + nrem ≤ N)(h1:1 ≤ nrem)(h:∀ n st',1 ≤ n→n ≤ nrem→SR' a₀ κ N lo st'→Q (some n) st'):wpS (model prog w) A E s (countRun' lo nrem) Q st:=by
 have b1:∀ n,n < nrem→lo + n < N:=fun n hn'=>by omega
 have b2:∀ n,n < nrem→lo + n - 1 < N:=fun n hn'=>by omega
 refine wpS_cnt (SR' a₀ κ N lo) (fun n (_:Unit)=>n) (y:=()) rfl hB h1 (fun n _ st _ hn' hB Q' q1 q2=>wpS_bind (wpS_ltAt hc hB.b (b1 n hn') (b2 n hn') fun b=>?_)) fun n _ st n1 n2 hB=>?_
 ·cases b
  ·exact wpS_pure (q2 () st hB)
  ·exact wpS_pure (q1 () st hB)
 ·refine wpS_iteB (fun _=>wpS_pure (h n st n1 n2 hB)) fun e=>?_
  have n3:n < nrem:=Nat.lt_of_le_of_ne n2 e
  apply wpS_dupS (SR' a₀ κ N lo) hB
  case hp =>
   refine fun _ key=>wpS_bind (wpS_ltAt hc hB.b (i:=lo) (j:=lo + n - 1) (b1 0 h1) (b2 n n3) fun b=>?_)
   cases b
   ·exact wpS_bind (hB.rev key)
   ·exact wpS_pure (h n st n1 n2 hB)
  intro st hB
  refine wpS_bind (wpS_rule ?_)
  refine wpS_cnt (SR' a₀ κ N lo) (fun n (q:Nat)=>(n,q)) (y:=0) rfl hB n3 (fun n y st _ hn' hB Q' q1 q2=>wpS_bind (wpS_ltAt hc hB.b (i:=lo + n) (j:=lo + n - 1) (b1 n hn') (b2 n hn') fun b=>?_)) fun n y st n1 n2 hB=>?_
  ·cases b
   ·refine wpS_bind (wpS_ltAt hc hB.b (i:=lo + n - 1) (j:=lo + n) (b2 n hn') (b1 n hn') fun b=>?_)
    cases b
    ·exact wpS_pure (q2 _ st hB)
    ·exact wpS_pure (q1 _ st hB)
   ·exact wpS_ite (fun _=>wpS_ite (fun _=>wpS_bind (hB.rev fun st hB=>wpS_pure (q2 _ st hB))) fun _=>wpS_pure (q2 _ st hB)) fun z=>absurd rfl z
  ·have n0:1 ≤ n:=Nat.le_trans (Nat.le_add_left 1 _) n1
   apply wpS_dupS (SR' a₀ κ N lo) hB
   case hp=>exact fun _ key=>wpS_bind (hB.rev key)
   intro st hB
   refine wpS_bind (hB.rev fun st hB=>?_)
   refine wpS_cnt (SR' a₀ κ N lo) (fun n (_:Unit)=>n) (y:=()) rfl hB n2 (fun n _ st _ hn' hB Q' q1 q2=>wpS_bind (wpS_ltAt hc hB.b (i:=lo + n) (j:=lo + n - 1) (b1 n hn') (b2 n hn') fun b=>?_)) fun n _ st n1 n2 hB=>wpS_pure (h n st (Nat.le_trans n0 n1) n2 hB)
   cases b
   ·exact wpS_pure (q2 () st hB)
   ·exact wpS_pure (q1 () st hB)
theorem SR'.perm{st:SortSt}{lo:Nat}(hB:SR' a₀ κ N lo st){xs:Array Keyed}(hp:xs.Perm (arrOf st)):SR' a₀ κ N lo (setArr st xs):=⟨hB.b.perm hp,hB.r⟩
theorem wpS_bin{st:SortSt}{lo n ok:Nat}{Q:Bool→SortSt→Prop}(hc:Cmp prog w A s κ a₀)(hB:SR' a₀ κ N lo st)(hn:lo + n ≤ N)(h:∀ b st',SR' a₀ κ N lo st'→Q b st'):wpS (model prog w) A E s (binarySort' lo n ok) Q st:=by
 refine wpS_bind (wpS_mono (wpS_forRange (I:=fun _ c st=>c=(none,())∧SR' a₀ κ N lo st) (Q:=fun c st=>c=(none,())∧SR' a₀ κ N lo st) (fun k c st _ hk hI=>?_) (fun c st hI=>hI) ⟨rfl,hB⟩) fun c st hI=>?_)
 ·obtain ⟨rfl,hB⟩:=hI
  refine wpS_bind (wpS_mono (wpS_forRange (I:=fun _ c st'=>st'=st∧∃ l r,c=(none,l,r)∧r ≤ k) (Q:=fun c st'=>st'=st∧∃ l r,c=(none,l,r)∧r ≤ k) (fun x c st' _ hx hI=>?_) (fun c st' hI=>hI) ⟨rfl,0,k,rfl,Nat.le_refl _⟩) fun c st' hI=>?_)
  ·obtain ⟨rfl,l,r,rfl,hr⟩:=hI
   refine wpS_ite (fun _=>wpS_pure ⟨rfl,l,r,rfl,hr⟩) fun hl=>?_
   have hl:¬ l ≥ r:=hl
   have b1:lo + k < N:=by omega
   have b2:lo + (l + r) / 2 < N:=by omega
   refine wpS_bind (wpS_ltAt hc hB.b b1 b2 fun b=>?_)
   cases b
   ·exact wpS_pure ⟨rfl,_,_,rfl,hr⟩
   ·refine wpS_pure ⟨rfl,l,(l + r) / 2,rfl,?_⟩
    omega
  ·obtain ⟨rfl,l,r,rfl,hr⟩:=hI
   exact wpS_bind (wpS_modify (wpS_pure ⟨rfl,hB.perm (bubble_perm _ _ _)⟩))
 ·obtain ⟨rfl,hB⟩:=hI
  exact wpS_pure (h _ _ hB)
theorem wpS_runs{st:SortSt}{Q:Unit→SortSt→Prop}(hc:Cmp prog w A s κ a₀)(hB:SB a₀ κ N st)(hp:pendingOf st = #[])(h:∀ st',SB a₀ κ N st'→Q () st'):wpS (model prog w) A E s sortRuns' Q st:=by
 refine wpS_bind (wpS_get ?_)
 have hz:=hB.size
 subst hz
 have hR:SR' a₀ κ (arrOf st).size 0 st:=⟨hB,by rw [hp];exact rfl⟩
 dsimp only
 generalize hN:(arrOf st).size=N at hB hR h ⊢
 refine wpS_bind (wpS_mono (wpS_forRange (I:=fun _ c st=>∃ lo,c=(none,lo)∧lo ≤ N∧SR' a₀ κ N lo st) (Q:=fun c st=>∃ lo,lo ≤ N∧SR' a₀ κ N lo st) (fun _ c st _ _ hI=>?_) (fun c st hI=>?_) ⟨0,rfl,Nat.zero_le _,hR⟩) fun c st hI=>?_)
 ·obtain ⟨lo,rfl,hlo,hB⟩:=hI
  refine wpS_ite (fun _=>wpS_pure ⟨lo,hlo,hB⟩) fun hl=>?_
  have hl:lo < N:=Nat.lt_of_not_le hl
  have b1:lo + (N - lo) ≤ N:=by omega
  refine wpS_bind (wpS_count hc hB b1 (by omega) fun n st n1 n2 hB=>?_)
  have jp:∀ n st,1 ≤ n→lo + n ≤ N→SR' a₀ κ N lo st→SR' a₀ κ N (lo + n) (setPending st ((pendingOf st).push (lo,n,0))):=fun n st n1 n2 hB=>⟨⟨hB.b.size,hB.b.of,hB.b.kind,hB.b.failed⟩,by
   show RunsFrom 0 ((pendingOf st).push (lo,n,0)).toList (lo + n)
   rw [Array.toList_push]
   exact hB.r.push n1⟩
  dsimp only
  have n2':lo + n ≤ N:=by omega
  generalize (sortPriv% PySem.Builtin.minRun) N N 0=minrun
  apply wpS_dupV (fun m st=>1 ≤ m∧lo + m ≤ N∧SR' a₀ κ N lo st) (o:=n) ⟨n1,n2',hB⟩
  case hp =>
   intro c key
   have f1:1 ≤ min (N - lo) minrun∧lo + min (N - lo) minrun ≤ N:=by omega
   exact wpS_bind (wpS_rule (wpS_bind (wpS_bin hc hB f1.2 fun b st hB=>wpS_ite (fun _=>wpS_pure ⟨lo,hlo,hB⟩) fun _=>key _ _ ⟨f1.1,f1.2,hB⟩)))
  rintro m st ⟨m1,m2,hB⟩
  refine wpS_bind (wpS_get ?_)
  have end':∀ st,SR' a₀ κ N lo st→∃ l,((none,lo + m):Option Unit×Nat)=(none,l)∧l ≤ N∧SR' a₀ κ N l (setPending st ((pendingOf st).push (lo,m,0))):=fun st hB=>⟨_,rfl,m2,jp m st m1 m2 hB⟩
  cases hbk:(pendingOf st).back? with
  |none=>exact wpS_bind (wpS_modify (wpS_pure (end' st hB)))
  |some x =>
   obtain ⟨s1,n1,q⟩:=x
   dsimp only
   generalize (sortPriv% PySem.Builtin.power) N (2 * s1 + n1) (2 * s1 + n1 + n1 + m) N=pw
   refine wpS_bind (wpS_mono (wpS_forRange (I:=fun _ c st=>c=(none,())∧SR' a₀ κ N lo st) (Q:=fun c st=>SR' a₀ κ N lo st) (fun _ c st _ _ hI=>?_) (fun c st hI=>hI.2) ⟨rfl,hB⟩) fun c st hI=>?_)
   ·obtain ⟨rfl,hB⟩:=hI
    refine wpS_bind (wpS_get ?_)
    by_cases hp:(pendingOf st).size > 1
    ·obtain ⟨⟨y1,y2,y3⟩,hy⟩:∃ y,(pendingOf st)[(pendingOf st).size - 2]?=some y:=⟨_,getElem?_pos (pendingOf st) _ (by omega)⟩
     rw [if_pos hp,hy]
     refine wpS_ite (fun _=>wpS_pure hB) fun _=>?_
     have hi:(pendingOf st).size - 2 + 1 < (pendingOf st).size:=by omega
     refine wpS_bind (wpS_mergeAt hc hB hlo hi fun b st hB=>?_)
     exact wpS_ite (fun _=>wpS_pure hB) fun _=>wpS_pure ⟨rfl,hB⟩
    ·rw [if_neg hp]
     exact wpS_pure hB
   ·obtain ⟨r,_⟩:=c
    cases r
    ·refine wpS_bind (wpS_modify (wpS_bind (wpS_modify (wpS_pure (end' (setPending st _) ⟨⟨hI.b.size,hI.b.of,hI.b.kind,hI.b.failed⟩,?_⟩)))))
     show RunsFrom 0 ((pendingOf st).modify _ _).toList lo
     rw [Array.toList_modify]
     exact RunsFrom.mod (f:=fun x=>(x.1,x.2.1,pw)) (fun _=>⟨rfl,rfl⟩) _ hI.r
    ·exact wpS_pure ⟨lo,hlo,hI⟩
 ·obtain ⟨lo,rfl,hlo,hB⟩:=hI
  exact ⟨lo,hlo,hB⟩
 ·obtain ⟨lo,hlo,hB⟩:=hI
  obtain ⟨r,lo'⟩:=c
  cases r
  ·refine wpS_bind (wpS_mono (wpS_forRange (I:=fun _ c st=>c=(none,())∧SR' a₀ κ N lo st) (Q:=fun c st=>SR' a₀ κ N lo st) (fun _ c st _ _ hI=>?_) (fun c st hI=>hI.2) ⟨rfl,hB⟩) fun c st hI=>?_)
   ·obtain ⟨rfl,hB⟩:=hI
    refine wpS_bind (wpS_get (wpS_ite (fun _=>wpS_pure hB) fun hp=>?_))
    have hp:¬ (pendingOf st).size ≤ 1:=hp
    have hi:∀ c:Bool,(if c=true then (pendingOf st).size - 2 - 1 else (pendingOf st).size - 2) + 1 < (pendingOf st).size:=fun c=>by cases c <;> simp <;> omega
    refine wpS_bind (wpS_mergeAt hc hB hlo (hi _) fun b st hB=>?_)
    exact wpS_ite (fun _=>wpS_pure hB) fun _=>wpS_pure ⟨rfl,hB⟩
   ·obtain ⟨r,_⟩:=c
    cases r
    ·exact wpS_pure (h _ hI.b)
    ·exact wpS_pure (h _ hI.b)
  ·exact wpS_pure (h _ hB.b)
end
end SR
namespace SR
open PySem PyProof.Rows PySem.W
noncomputable def ITup(h:Heap)(v:Value):Prop:=∃ a o xs n f r,v = .ref a∧h.get? a=some o∧o.cls = .type "tuple"∧o.data = .seq xs n∧xs.toList=f :: r∧∀ x ∈ f :: r,∃ i t,x=Value.int i t
section
variable {prog:Program} {w:World} {A:Around} {E:Value→Shared→Prop} {s:Shared}
theorem lex_ints{fin:Bool}{Q:Bool→Shared→Prop}(hq:∀ b,Q b s):∀ (l:List (Value×Value)) (i:Nat),(∀ p ∈ l,(∃ i t,p.1=Value.int i t)∧∃ i t,p.2=Value.int i t)→KatLex prog w A true fin Q l i s
 |[],_,_=>kat_nil (hq _)
 |(p,q) :: l,i,h=>by
  obtain ⟨⟨a,t,rfl⟩,b,u,rfl⟩:=h (p,q) List.mem_cons_self
  refine kat_cons (wpAny_eqBool_int (kat_go (fun _=>kat_yes (lex_ints hq l (i + 1) fun p hp=>h p (List.mem_cons_of_mem _ hp))) fun _=>kat_no ?_))
  cases hb:(true && i == 0)
  ·exact kat_one _ _ (wpAny_lt_int (hq _))
  ·exact oneLt_int (hq _)
theorem cmp_tups{vs:List Value}(h:∀ v ∈ vs,ITup s.heap v):Cmp prog w A s (tuples' true) (vs.zip vs):=fun x y hx hy=>by
 have hx:=h _ (mem_zip_self hx).2
 have hy:=h _ (mem_zip_self hy).2
 obtain ⟨x,x'⟩:=x
 obtain ⟨y,y'⟩:=y
 obtain ⟨a,o,xs,n,f,r,rfl,ho,_,hd,ex,hi⟩:=hx
 obtain ⟨b,o',ys,n',f',r',rfl,ho',_,hd',ey,hi'⟩:=hy
 refine kat_lt ho hd ho' hd' (lex_ints (Q:=fun _ s'=>s'=s) (fun _=>rfl) _ _ fun p hp=>?_)
 rw [ex,ey] at hp
 obtain ⟨p1,p2⟩:=p
 exact ⟨hi _ (List.of_mem_zip hp).1,hi' _ (List.of_mem_zip hp).2⟩
theorem tups_of{h:Heap}:∀ {vs:List Value},(∀ v ∈ vs,ITup h v)→∃ fs:List Value,KatTups h vs fs∧fs.length=vs.length∧∀ v ∈ fs,∃ k t,v=Value.int k t
 |[],_=>⟨[],KatTups.nil,rfl,fun v hv=>(nomatch hv)⟩
 |v :: vs,x=>by
  obtain ⟨fs,k,l,a⟩:=tups_of (vs:=vs) fun e he=>x e (List.mem_cons_of_mem _ he)
  obtain ⟨b,o,its,n,f,r,rfl,ho,hc,hd,hi,hf⟩:=x v List.mem_cons_self
  refine ⟨f :: fs,KatTups.cons ho hc hd (by rw [← Array.getElem?_toList,hi];rfl) k,by simp [l],fun v hv=>?_⟩
  rcases List.mem_cons.mp hv with rfl | hv
  ·exact hf _ List.mem_cons_self
  ·exact a v hv
theorem sort_tups{a n:Nat}{vs:List Value}{P:PySem.Fin→Shared→Prop}(ho:s.heap.get? a=some (seqObj "list" vs.toArray n))(hX:∀ v ∈ vs,ITup s.heap v)(hl:vs.length ≤ sizeLine)
  (h:∀ out:Array Value,out.size=vs.length→(∀ v ∈ out,v ∈ vs)→P (.done (.ret .none)) { s with heap:=sortedHeap s.heap a vs out }) :
  wpAny (model prog w) A (Builtin.«list.sort» ⟨[.ref a],[]⟩) P E s:=by
 rw [list_sort_plain]
 have ha:a < s.heap.objs.size:=Heap.lt_size ho
 refine wpAny_bind (listItems_at ho rfl ?_)
 refine wpAny_bind (listUpdate_at ho rfl ?_ (by rw [List.size_toArray];exact hl) (Nat.zero_le _))
 obtain ⟨e1,ho1⟩:∃ e1,(s.heap.update a (Obj.mapSeq fun _=>#[])).get? a=some (seqObj "list" #[] e1):=⟨_,get?_update_seq ho (fun _=>#[])⟩
 refine wpAny_bind (seqEpoch_at ho1 rfl ?_)
 refine wpAny_bind (wpAny_newTuple ?_ hl)
 refine wpAny_bind (wpAny_newList ?_ (Nat.zero_le _))
 refine wpAny_holding ?_
 show wpAny (model prog w) A _ P E { s with heap:=((s.heap.update a (Obj.mapSeq fun _=>#[])).push (seqObj "tuple" vs.toArray 0)).push (seqObj "list" #[] 0) }
 have ho6:(((s.heap.update a (Obj.mapSeq fun _=>#[])).push (seqObj "tuple" vs.toArray 0)).push (seqObj "list" #[] 0)).get? a=some (seqObj "list" #[] e1):=by
  rw [Heap.get?_push_ne _ _ _ (by rw [size_push',Heap.size_update];exact Nat.ne_of_lt (Nat.lt_succ_of_lt ha)),Heap.get?_push_ne _ _ _ (by rw [Heap.size_update];exact Nat.ne_of_lt ha)]
  exact ho1
 have hX6:∀ v ∈ vs,ITup (((s.heap.update a (Obj.mapSeq fun _=>#[])).push (seqObj "tuple" vs.toArray 0)).push (seqObj "list" #[] 0)) v:=fun v hv=>by
  obtain ⟨b,o,xs,n,f,r,rfl,q,hc,z⟩:=hX v hv
  have hne:a ≠ b:=fun z=>by
   subst z
   rw [ho] at q
   cases q
   exact absurd hc (show ¬ (Value.type "list" = Value.type "tuple") by decide)
  exact ⟨b,o,xs,n,f,r,rfl,Heap.get?_push_of_some _ (Heap.get?_push_of_some _ ((Heap.get?_update_other _ _ hne).trans q)),hc,z⟩
 have fin:∀ xs:Array Keyed,xs.size=vs.length→Of (vs.zip vs) xs→P (.done (.ret .none)) { s with heap:=sortedHeap s.heap a vs (xs.map (·.2)) }:=fun xs hz hO=>h _ (by rw [Array.size_map];exact hz) fun v hv=>by
  obtain ⟨x,hx,rfl⟩:=Array.mem_map.mp hv
  obtain ⟨z1,z2⟩:=mem_zip_self (hO x hx)
  rw [← z1];exact z2
 have hzs:(pairsOf vs).size=vs.length:=pairsOf_size vs
 have hOf:Of (vs.zip vs) (pairsOf vs):=fun x hx=>by rw [← pairsOf_toList];exact Array.mem_toList_iff.mpr hx
 unfold sortedHeap at fin
 generalize ((s.heap.update a (Obj.mapSeq fun _=>#[])).push (seqObj "tuple" vs.toArray 0)).push (seqObj "list" #[] 0)=H6 at fin ho6 hX6 ⊢
 dsimp only
 by_cases h2:vs.toArray.size < 2
 ·rw [if_pos h2,if_pos h2]
  refine wpAny_bind (wpAny_pure ?_)
  rw [StateT.run_pure]
  refine wpAny_bind (wpAny_pure ?_)
  refine wpAny_bind (seqEpoch_at ho6 rfl ?_)
  refine wpAny_bind (listUpdate_at ho6 rfl ?_ (Nat.zero_le _) (by rw [Array.size_map];show (pairsOf vs).size ≤ _;rw [hzs];exact Nat.le_succ_of_le hl))
  simp only [bne_self_eq_false,Bool.false_eq_true,if_false]
  exact wpAny_pure (fin _ hzs hOf)
 ·rw [if_neg h2,if_neg h2]
  rw [List.size_toArray] at h2
  obtain ⟨fs,kt,kl,kf⟩:=tups_of hX6
  refine wpAny_bind (kat_kind (T:=.type "int") kt (by omega) (fun v hv=>?_) rfl ?_)
  ·obtain ⟨k,t,rfl⟩:=kf v hv
   exact Looks.now
  refine wpAny_bind (wpAny_mono (wpS_runs (Q:=fun _ st=>SB (vs.zip vs) (tuples' true) vs.length st) (cmp_tups hX6) (st:=SortSt.mk' (tuples' true) (vs.toArray.zip vs.toArray) #[] 7 none) ⟨hzs,hOf,rfl,rfl⟩ rfl fun st hB=>hB) ?_ fun _ _ e=>e)
  rintro ⟨⟨⟩,st'⟩ s' ⟨rfl,hB⟩
  dsimp only
  refine wpAny_bind (seqEpoch_at ho6 rfl ?_)
  refine wpAny_bind (listUpdate_at ho6 rfl ?_ (Nat.zero_le _) (by rw [Array.size_map];show (arrOf st').size ≤ _;rw [hB.size];exact Nat.le_succ_of_le hl))
  rw [show failedOf st'=none from hB.failed]
  simp only [bne_self_eq_false,Bool.false_eq_true,if_false]
  exact wpAny_pure (fin _ hB.size hB.of)
end
end SR
namespace SR
open PySem PyProof.Rows PySem.W
section
variable {prog:Program} {w:World} {A:Around} {E:Value→Shared→Prop} {s:Shared}
noncomputable def CK(s:Shared)(es:Array DictEntry)(r:Result)(s':Shared):Prop:=r = .ok (.ret (.ref s.heap.objs.size))∧∃ (h':Heap) (tk:Nat) (acc':Array Value) (c':Nat),s'={ s with heap:=h',toks:=tk } ∧
 (∀ b o,b ≠ s.heap.objs.size→(s.heap.push { cls:=.type "list",data:=.seq ([]:List Value).toArray }).get? b=some o→h'.get? b=some o) ∧
 h'.get? s.heap.objs.size=some { cls:=.type "list",dict:=none,data:=.seq acc' c',slots:=#[] }∧ItemsOf (fun i v=>∃ h:i < es.size,v=es[i].key) acc' es.size
theorem collect_keys{d:Addr}{o:Obj}{es:Array DictEntry}{ep:Nat}{Q:List Value→Shared→Prop}(hh:A.handled=none)(lo:(d == sysModules)=false)(ho:s.heap.get? d=some o)(hx:o.ExactDict)(hdd:o.data = .dict es ep)(hz:es.size ≤ sizeLine)
  (h:∀ h' tk,(∀ b o,s.heap.get? b=some o→h'.get? b=some o)→s.heap.objs.size < h'.objs.size→Q (es.toList.map (·.key)) { s with heap:=h',toks:=tk }):wpAny (model prog w) A (collect (.ref d)) Q E s:=by
 unfold collect
 have hlt:=Heap.lt_size ho
 refine wpAny_bind (wpAny_runValue (codeAny_mono (R:=CK s es) (codeAny_builtin PySem.F.entry_proto_collect ?_) ?_))
 rotate_left
 ·rintro r s' ⟨rfl,h',tk,acc',c',rfl,hk,hS',hacc⟩
  show wpAny _ A (load s.heap.objs.size >>= _) _ _ _
  refine wpAny_bind (wpAny_load hS' ?_)
  have e1:acc'.toList=es.toList.map (·.key):=by
   refine List.ext_getElem (by simp [hacc.1]) fun i h1 h2=>?_
   obtain ⟨_,hv⟩:=hacc.2 i acc'[i] (Array.getElem?_eq_getElem (by simpa using h1))
   simp [hv]
  refine wpAny_pure ?_
  rw [e1]
  exact h h' tk (fun b o e=>hk b o (Nat.ne_of_lt (Heap.lt_size e)) (Heap.get?_push_of_some _ e)) (Heap.lt_size hS')
 rw [Around.under_plainId PySem.F.plain_proto_collect _]
 refine wpAny_bind (wpAny_newObj_type ?_)
 refine wpAny_pure ⟨plainId_quiet PySem.F.plain_list_iadd _,codeAny_builtin PySem.F.entry_list_iadd ?_⟩
 rw [Around.under_plainId PySem.F.plain_list_iadd _]
 have hS₁:(s.heap.push { cls:=.type "list",data:=.seq ([]:List Value).toArray }).get? s.heap.objs.size=some { cls:=.type "list",data:=.seq #[] 0 }:=Heap.get?_push_size _ rfl
 exact kdl_extend (R:=CK s es) (s:={ s with heap:=s.heap.push { cls:=.type "list",data:=.seq ([]:List Value).toArray } }) (L2.src_keys lo hx hdd) hh (Heap.get?_push_of_some _ ho) s.heap.objs.size (Nat.ne_of_gt hlt) (Nat.ne_of_gt hlt) (.ref s.heap.objs.size) 0 hS₁ (fun h' tk acc' c' hk hS' hacc=>⟨rfl,h',tk,acc',c',rfl,hk,hS',hacc⟩) hz
theorem ITup.keep{h h':Heap}{v:Value}(x:ITup h v)(k:∀ b o,h.get? b=some o→h'.get? b=some o):ITup h' v:=by
 obtain ⟨a,o,xs,n,f,r,e,q,z⟩:=x
 exact ⟨a,o,xs,n,f,r,e,k _ _ q,z⟩
theorem sorted_keys{d:Addr}{o:Obj}{es:Array DictEntry}{ep:Nat}{Q:Value→Shared→Prop}(hh:A.handled=none)(lo:(d == sysModules)=false)(ho:s.heap.get? d=some o)(hx:o.ExactDict)(hdd:o.data = .dict es ep)(hz:es.size ≤ sizeLine)(hX:∀ e ∈ es.toList,ITup s.heap e.key)
  (h:∀ h' tk D (out:Array Value) c,(∀ b o,s.heap.get? b=some o→h'.get? b=some o)→s.heap.objs.size ≤ D→h'.get? D=some (seqObj "list" out c)→out.size=es.size→(∀ v ∈ out,∃ e ∈ es.toList,v=e.key)→Q (.ref D) { s with heap:=h',toks:=tk }) :
  wpAny (model prog w) A (call (.builtin "sorted") [.ref d]) Q E s:=by
 refine Calls.call_function_entry kind_sorted plain_sorted entry_sorted (args_sorted1 _) ?_
 unfold Builtin.«sorted»
 refine wpAny_bind (m:=checkCount "sorted" 1 1 _) (wpAny_pure ?_)
 refine wpAny_bind (collect_keys hh lo ho hx hdd hz fun h1 tk hk hsz=>?_)
 have hl:(es.toList.map (·.key)).length=es.size:=by simp
 have hX1:∀ v ∈ es.toList.map (·.key),ITup h1 v:=fun v hv=>by
  obtain ⟨e,he,rfl⟩:=List.mem_map.mp hv
  exact (hX e he).keep hk
 have hm:∀ v ∈ es.toList.map (·.key),∃ e ∈ es.toList,v=e.key:=fun v hv=>by
  obtain ⟨e,he,rfl⟩:=List.mem_map.mp hv
  exact ⟨e,he,rfl⟩
 generalize es.toList.map (·.key)=vs at hl hX1 hm ⊢
 refine wpAny_bind (wpAny_newList ?_ (by rw [hl];exact hz))
 have hoL:(h1.push (seqObj "list" vs.toArray 0)).get? h1.objs.size=some (seqObj "list" vs.toArray 0):=Heap.get?_push_size _ rfl
 show wpAny _ _ _ _ _ { s with heap:=h1.push (seqObj "list" vs.toArray 0),toks:=tk }
 have hold:∀ b o,h1.get? b=some o→(h1.push (seqObj "list" vs.toArray 0)).get? b=some o:=fun b o e=>Heap.get?_push_of_some _ e
 generalize h1.push (seqObj "list" vs.toArray 0)=H2 at hoL hold ⊢
 have hT:Shared.TypeIs { s with heap:=H2,toks:=tk } (.ref h1.objs.size) "list":=⟨_,hoL,rfl⟩
 refine wpAny_bind (wpAny_holding (wpAny_call_entry slot_list_sort hT entry_list_sort (sort_tups (s:={ s with heap:=H2,toks:=tk }) (a:=h1.objs.size) (n:=0) hoL (fun v hv=>(hX1 v hv).keep hold) (by rw [hl];exact hz) fun out a1 a2=>?_) (args_list_sort _)))
 obtain ⟨c,hc⟩:=sortedHeap_at (vs:=vs) (out:=out) hoL
 refine ⟨_,rfl,wpAny_pure ⟨_,rfl,h _ tk h1.objs.size out c (fun b o e=>?_) (Nat.le_of_lt hsz) hc (a1.trans hl) fun v hv=>hm v (a2 v hv)⟩⟩
 have e1:=hk b o e
 rw [sortedHeap_old (Nat.ne_of_lt (Heap.lt_size e1)) (Heap.lt_size (hold b o e1))]
 exact hold b o e1
end
end SR
namespace L2
open PySem PySem.Spec PyProof.Rows
section
variable {X:Cx}
noncomputable def IK(k:List Key):Prop:=∃ (i:Int) (r:List Int),k = .inl i :: r.map Sum.inl
theorem ints_val:∀ {r:List Int} {us:List Value},Vals (r.map fun i=>V.int i) us→∀ x ∈ us,∃ i t,x=Value.int i t
 |[],_,.nil,x,h=>(nomatch h)
 |i :: r,_,.cons q t,x,h=>by
  rcases List.mem_cons.mp h with rfl | h
  ·obtain ⟨t,rfl⟩:=q;exact ⟨i,t,rfl⟩
  ·exact ints_val t x h
theorem call_sortedT(hc:X.calm=true):CallR X (.builtin "sorted") (fun xs H Q=>∃ a kvs,xs=[.ref a]∧Rd H a (.dT kvs)∧(∀ p ∈ kvs,IK p.1)∧∀ p (bs:List Addr),H p=none→bs.length=kvs.length→(∀ b ∈ bs,∃ q ∈ kvs,H b=some (.tup (q.1.map kV)))→Q (.ref p) (upd H p (.lst (bs.map V.ref)))):=by
 intro pins s σ H xs us Q I r h
 obtain ⟨a,kvs,rfl,e,hI,q⟩:=h
 obtain ⟨u,rfl,ru⟩:=vals1 r
 cases ru
 obtain ⟨z,hd,ys,rel,o,es,ep,h1,h2,h3,h4,h5⟩:=(show ObjOk X.prog X.w H s.heap a (.dT kvs) from rd_of I.hok e)
 have hs:es.size=ys.length:=by rw [← Array.length_toList,h4,List.length_map]
 have hl:=Paired.length rel
 have hk:∀ e ∈ es.toList,∃ b,e.key = .ref b∧∃ q ∈ kvs,H b=some (.tup (q.1.map kV)):=fun e he=>by
  rw [h4] at he
  obtain ⟨y,hy,rfl⟩:=List.mem_map.mp he
  obtain ⟨i,hi,rfl⟩:=List.mem_iff_getElem.mp hy
  obtain ⟨p,e1,_,e2,_⟩:=pair_at rel (List.getElem?_eq_getElem hi)
  exact ⟨_,rfl,p,List.mem_of_getElem? e1,e2⟩
 refine SR.sorted_keys (I.ok.hd hc) hd h1 h2 h3 (by rw [hs,← hl];exact z) (fun e he=>?_) fun h' tk D out c hkp hD hat hz hin=>?_
 ·obtain ⟨b,eb,p,hp,hb⟩:=hk e he
  obtain ⟨its,rv,⟨o,ho,hc,n,hd⟩,_⟩:=I.tuple (xs:=p.1.map kV) (a:=b) (.inl (.inl hb))
  obtain ⟨i,r,ep⟩:=hI p hp
  rw [ep,List.map_cons,List.map_map] at rv
  cases rv with
  |cons q1 q2 =>
   refine ⟨b,o,_,n,_,_,eb,ho,hc,hd,rfl,ints_val (r:=i :: r) (.cons q1 q2)⟩
 ·obtain ⟨bs,e1,e2⟩:∃ bs:List Addr,out.toList=bs.map Value.ref∧∀ b ∈ bs,∃ q ∈ kvs,H b=some (.tup (q.1.map kV)):=by
   have hin:∀ v ∈ out.toList,∃ b,v = .ref b∧∃ q ∈ kvs,H b=some (.tup (q.1.map kV)):=fun v hv=>by
    obtain ⟨e,he,rfl⟩:=hin v (Array.mem_toList_iff.mp hv)
    exact hk e he
   generalize out.toList=l at hin
   clear hat hz q
   induction l with
   |nil=>exact ⟨[],rfl,fun b hb=>(nomatch hb)⟩
   |cons v l ih =>
    obtain ⟨bs,e1,e2⟩:=ih fun v hv=>hin v (List.mem_cons_of_mem _ hv)
    obtain ⟨b,rfl,hb⟩:=hin v List.mem_cons_self
    refine ⟨b :: bs,by rw [e1];rfl,fun x hx=>?_⟩
    rcases List.mem_cons.mp hx with rfl | hx
    ·exact hb
    ·exact e2 x hx
  have el:bs.length=kvs.length:=by
   have:=congrArg List.length e1
   rw [Array.length_toList,hz,hs,← hl,List.length_map] at this
   exact this.symm
  have eo:out=(bs.map Value.ref).toArray:=by rw [← e1]
  exact ⟨.ref D,_,I.laid (t':=tk) hkp hD (show ObjOk X.prog X.w _ h' _ (.lst (bs.map V.ref)) from ⟨by rw [List.length_map,el];exact z,bs.map Value.ref,c,refs_val _,by rw [← eo];exact hat⟩),rfl,q _ _ (I.hok.fresh hD) el e2⟩
end
end L2
namespace DL
open PySem PySem.Spec L2
noncomputable def dSortT(f:DA):DN:=fun δ h Q=>f δ h fun ds h1=>∃ i z kvs,ds=[.ref i]∧h1[i]?=some (.dT z kvs)∧(∀ kv ∈ kvs,IK kv.1)∧∀ ks:List (List Key),ks.length=kvs.length→(∀ k ∈ ks,∃ kv ∈ kvs,k=kv.1)→Q (ks.map keyD) h1
theorem keys_some{K:KP}{α:List Addr}{H:Hp}{h:Hh}(R:HRel K α H h){us:List (List Key×V)}:∀ {bs:List Addr},(∀ b ∈ bs,∃ q ∈ us,H b=some (.tup (q.1.map kV)))→∃ ks:List (List Key),ks.length=bs.length∧(∀ k ∈ ks,k ∈ us.map (·.1))∧RelDs K α H (ks.map keyD) (bs.map V.ref)
 |[],_=>⟨[],rfl,fun k hk=>(nomatch hk),.nil⟩
 |b :: bs,a=>by
  obtain ⟨ks,e1,e2,e3⟩:=keys_some R fun b hb=>a b (List.mem_cons_of_mem _ hb)
  obtain ⟨q,hq,hb⟩:=a b List.mem_cons_self
  refine ⟨q.1 :: ks,by simp [e1],fun k hk=>?_,.cons (key_of_H R hb) e3⟩
  rcases List.mem_cons.mp hk with rfl | hk
  ·exact List.mem_map.mpr ⟨q,hq,rfl⟩
  ·exact e2 k hk
section
variable {X:Cx} {e:Expr} {es:List Expr} {n:Nat} {f:DA} {p pos:Pos}
theorem sn_sortT(hc:X.calm=true)(hg:Gl X "sorted")(hm:X.mg "sorted" = none)(ha:SA X (e :: es) n f)(he:starEach (e :: es) X.env=(false,eval e X.env) :: starEach es X.env:=by rfl)(hpl:(backTo pos (starEach es X.env)).any (·.1)=false:=by rfl) :
  SN X (.Call (.Name "sorted" p) (e :: es) [] pos) (dSortT f):=PE.imp (pe_callB (call_sortedT hc) hg hm PyProof.Rows.boot_sorted ha (by decide) (by decide) he hpl) fun σ H Q zz=>by
 obtain ⟨π,α,δ,h,Q',R,S,f,k⟩:=zz
 refine ⟨π,α,δ,h,_,R,S,f,fun ds h1 α1 H1 vs f1 e1 R1 q1 l1=>?_⟩
 obtain ⟨i,z,kvs,rfl,eh,hI,f1⟩:=f1
 obtain ⟨v,rfl,rd⟩:=q1.inv1
 cases rd with
 |ref hp =>
  obtain ⟨us,rd,rel⟩:=R1.rdT hp eh
  have ek:us.map (·.1)=kvs.map (·.1):=rel.keys
  refine ⟨_,us,rfl,rd,fun p hp=>?_,fun l bs hl el hb=>?_⟩
  ·have:p.1 ∈ kvs.map (·.1):=ek ▸ List.mem_map_of_mem (f:=(·.1)) hp
   obtain ⟨kv,hkv,e⟩:=List.mem_map.mp this
   exact e ▸ hI kv hkv
  ·obtain ⟨ks,e1',e2,e3⟩:=keys_some R1 hb
   refine LN.last (h:=h) k (f1 ks (e1'.trans (el.trans ?_)) fun k hk=>?_) e1 R1 e3 hl
   ·have:=congrArg List.length ek;simpa using this
   ·obtain ⟨kv,hkv,e⟩:=List.mem_map.mp (ek ▸ e2 k hk)
    exact ⟨kv,hkv,e.symm⟩
end
end DL
namespace L2
open PySem PySem.Spec PyProof.Rows
noncomputable def TupR(h:Heap)(v:Value):Prop:=∃ b ob,v = .ref b∧h.get? b=some ob∧ob.cls = .type "tuple"
section
variable {prog:Program} {w:World} {A:Around} {E:Value→Shared→Prop} {s:Shared}
theorem few_of{es:Array DictEntry}(hn:(es.toList.map (·.hash)).Nodup){e:DictEntry}:¬ (es.filter (·.hash == e.hash)).size > 1:=by
 intro z
 have e1:(es.filter (·.hash == e.hash)).size=(es.toList.filter (·.hash == e.hash)).length:=by rw [← Array.toList_filter,Array.length_toList]
 rw [e1] at z
 have nd:((es.toList.filter (·.hash == e.hash)).map (·.hash)).Nodup:=hn.sublist (List.filter_sublist.map _)
 match hl:es.toList.filter (·.hash == e.hash),z with
 |[],z=>rw [hl] at z;exact absurd z (by simp)
 |[_],z=>rw [hl] at z;exact absurd z (by simp)
 |x :: y :: l,_ =>
  rw [hl] at nd
  have hx:x ∈ es.toList.filter (·.hash == e.hash):=by rw [hl];simp
  have hy:y ∈ es.toList.filter (·.hash == e.hash):=by rw [hl];simp
  have h1:x.hash=e.hash:=by simpa using (List.mem_filter.mp hx).2
  have h2:y.hash=e.hash:=by simpa using (List.mem_filter.mp hy).2
  rw [List.map_cons,List.map_cons,List.nodup_cons] at nd
  exact nd.1 (by rw [h1,h2];simp)
theorem entries_empty{nm:String}{d:Addr}{o:Obj}{es:Array DictEntry}{ep:Nat}{Q:Array DictEntry→Shared→Prop}(ho:s.heap.get? d=some o)(hd:o.data = .dict es ep)(hk:∀ e ∈ es.toList,TupR s.heap e.key)(hn:(es.toList.map (·.hash)).Nodup)(h:Q es s) :
  wpAny (model prog w) A (Builtin.Dict.entriesForEmpty nm d) Q E s:=by
 unfold Builtin.Dict.entriesForEmpty
 refine wpAny_bind (wpAny_dictEntries ho hd ?_)
 rw [← Array.forIn_toList]
 refine wpAny_bind (wpAny_forIn_list _ (fun rest _ s'=>s'=s∧∀ e ∈ rest,TupR s.heap e.key) _ ?_ ?_ _ _ ⟨rfl,hk⟩)
 ·rintro e rest b s' ⟨rfl,hr⟩
  obtain ⟨b,ob,eb,hb,hc⟩:=hr e List.mem_cons_self
  have hT:s'.TypeIs (.ref b) "tuple":=⟨ob,hb,hc⟩
  have q:wpAny (model prog w) A (Builtin.Dict.quietEq e.key) (fun r s''=>r=false∧s''=s') E s':=by
   rw [eb]
   exact wpAny_bind (wpAny_specialOf hT F.slot_tuple_eq.lookup (wpAny_pure ⟨by decide,rfl⟩))
  refine wpAny_bind (wpAny_mono q (fun r s'' z=>?_) fun _ _ z=>z)
  obtain ⟨rfl,rfl⟩:=z
  simp only [Bool.not_false,if_true]
  rw [if_neg (few_of hn)]
  exact wpAny_pure ⟨rfl,fun e he=>hr e (List.mem_cons_of_mem _ he)⟩
 ·rintro b s' ⟨rfl,_⟩
  exact wpAny_pure h
theorem merge_new{nm:String}{d o:Addr}{od oo:Obj}{es:Array DictEntry}{ed ep:Nat}{Q:Unit→Shared→Prop}(hdo:d ≠ o)(hoS:(o == sysModules)=false)(hod:s.heap.get? d=some od)(hcd:od.ExactDict)(hdd:od.data = .dict #[] ed)
  (hoo:s.heap.get? o=some oo) (hdo':oo.data = .dict es ep) (hk:∀ e ∈ es.toList,TupR s.heap e.key) (hn:(es.toList.map (·.hash)).Nodup) (hz:es.size ≤ sizeLine)
  (h:∀ (h':Heap) (o':Obj) (e':Nat),h'.get? d=some o'→o'.ExactDict→o'.data = .dict es e'→Heap.SameBut d s.heap h'→Q () { s with heap:=h' }):wpAny (model prog w) A (Builtin.Dict.mergeDict nm d o) Q E s:=by
 unfold Builtin.Dict.mergeDict
 rw [if_neg (by simpa using hdo)]
 unfold Builtin.Dict.showsAll
 rw [if_neg (by rw [hoS];exact Bool.false_ne_true)]
 refine wpAny_bind (wpAny_pure ?_)
 refine wpAny_bind (wpAny_dictEntries hoo hdo' ?_)
 by_cases he:es = #[]
 ·subst he
  dsimp only
  rw [if_neg (by simp)]
  refine wpAny_bind (wpAny_dictEpoch hoo hdo' ?_)
  refine wpAny_bind (wpAny_dictEntries hoo hdo' ?_)
  have e0:[:(#[]:Array DictEntry).size]=([0:0]:Std.Legacy.Range):=rfl
  rw [e0,Std.Legacy.Range.forIn_eq_forIn_range']
  show wpAny _ _ (forIn (List.range' 0 ([0:0]:Std.Legacy.Range).size 1) _ _ >>= _) _ _ _
  rw [show ([0:0]:Std.Legacy.Range).size=0 by simp [Std.Legacy.Range.size]]
  exact wpAny_bind (wpAny_pure (wpAny_pure (h _ od ed hod hcd hdd (Heap.SameBut.refl _ _))))
 ·have hall:(es.all fun e=>(keyPart e.key).isSome)=false:=by
   cases q:(es.all fun e=>(keyPart e.key).isSome) with
   |false=>rfl
   |true =>
    obtain ⟨l⟩:=es
    match l,he with
    |[],he=>exact absurd rfl he
    |e :: l,_ =>
     obtain ⟨b,ob,eb,_⟩:=hk e (by simp)
     have:=Array.all_eq_true'.mp q e (by simp)
     rw [eb] at this
     exact (Bool.false_ne_true this).elim
  dsimp only
  rw [hall,Bool.and_false,if_pos (by decide)]
  refine wpAny_bind (wpAny_dictEntries hod hdd ?_)
  rw [if_pos (by decide)]
  refine wpAny_bind (entries_empty hoo hdo' hk hn ?_)
  rw [if_pos (by simpa using he)]
  exact wpAny_bind (wpAny_updateDictKeysTo hod hdd (wpAny_pure (h _ _ (ed + 1) (Heap.get?_update_self _ hod (Obj.isFreed_of_dict (Obj.data_mapDictKeys hdd _))) (hcd.mapDictKeys _) (Obj.data_mapDictKeys hdd _) (Heap.SameBut.update ..))) (Nat.le_succ_of_le hz))
theorem dict_of{o:Addr}{oo:Obj}{es:Array DictEntry}{ep:Nat}{Q:Value→Shared→Prop}(hoS:(o == sysModules)=false)(hoo:s.heap.get? o=some oo)(hx:oo.ExactDict)(hdo:oo.data = .dict es ep)(hk:∀ e ∈ es.toList,TupR s.heap e.key)(hn:(es.toList.map (·.hash)).Nodup)(hz:es.size ≤ sizeLine)
  (h:∀ (h':Heap) (o':Obj) (e':Nat),h'.get? s.heap.objs.size=some o'→o'.ExactDict→o'.data = .dict es e'→(∀ b x,s.heap.get? b=some x→h'.get? b=some x)→Q (.ref s.heap.objs.size) { s with heap:=h' }) :
  wpAny (model prog w) A (call (.type "dict") [.ref o]) Q E s:=by
 refine callType_codes (Q₁:=fun obj s₁=>obj = .ref s.heap.objs.size∧s₁={ s with heap:=s.heap.push { cls:=.type "dict",data:=.dict #[] } }) F.kt_called_dict (F.kt_typeCall_dict_1 _) F.entry_dict_init (kt_code_dict_new _ ⟨rfl,rfl⟩) ?_
 rintro obj s₁ ⟨rfl,rfl⟩
 have hnew:(s.heap.push { cls:=.type "dict",data:=.dict #[] }).get? s.heap.objs.size=some { cls:=.type "dict",data:=.dict #[] }:=Heap.get?_push_size _ rfl
 have ho':(s.heap.push { cls:=.type "dict",data:=.dict #[] }).get? o=some oo:=Heap.get?_push_of_some _ hoo
 have hdo':s.heap.objs.size ≠ o:=fun e=>absurd (Heap.lt_size hoo) (by rw [e];exact Nat.lt_irrefl _)
 have hT:Shared.TypeIs { s with heap:=s.heap.push { cls:=.type "dict",data:=.dict #[] } } (.ref s.heap.objs.size) "dict":=⟨_,hnew,rfl⟩
 have hTo:Shared.TypeIs { s with heap:=s.heap.push { cls:=.type "dict",data:=.dict #[] } } (.ref o) "dict":=⟨_,ho',hx.1⟩
 refine ⟨hT,F.args_dict_init_2 _ _,?_⟩
 unfold Builtin.«dict.__init__»
 refine wpAny_bind ?_
 unfold Builtin.Dict.selfAndRest
 refine wpAny_bind (wpAny_notOrdered_dict hT ?_)
 show wpAny _ _ (pure (s.heap.objs.size,[Value.ref o])) _ _ _
 refine wpAny_pure ?_
 show wpAny _ _ (Builtin.Dict.updateFrom "dict.__init__" s.heap.objs.size (.ref o) [] .none) _ _ _
 unfold Builtin.Dict.updateFrom
 refine wpAny_bind (wpAny_typeOf hTo ?_)
 rw [if_neg (by decide)]
 refine wpAny_bind ?_
 unfold Builtin.Dict.merge
 refine wpAny_bind ?_
 unfold Builtin.Dict.readDirectly
 refine wpAny_bind (wpAny_isInstance hTo isSubtype_dict_dict ?_)
 simp only [Bool.not_true,Bool.false_eq_true,if_false]
 refine wpAny_bind (wpAny_specialOf hTo F.slot_dict_iter.lookup (wpAny_pure ?_))
 simp only [beq_self_eq_true,if_true]
 refine wpAny_bind (wpAny_pure ?_)
 refine merge_new hdo' hoS hnew ⟨rfl,rfl,rfl⟩ rfl ho' hdo (fun e he=>?_) hn hz fun h' o' e' h1 h2 h3 hs=>?_
 ·obtain ⟨b,ob,z,hb,r⟩:=hk e he
  exact ⟨b,ob,z,Heap.get?_push_of_some _ hb,r⟩
 ·show wpAny _ _ (Builtin.Dict.addKeywords s.heap.objs.size [] >>= _) _ _ _
  exact wpAny_bind (wpAny_pure (wpAny_pure ⟨rfl,h h' o' e' h1 h2 h3 fun b x hb=>(hs.2 b (Nat.ne_of_lt (Heap.lt_size hb))).trans (Heap.get?_push_of_some _ hb)⟩))
end
section
variable {X:Cx}
noncomputable def HashN(X:Cx)(ks:List (List Key)):Prop:=(ks.map (tupleKeyHash (mixKind X.prog X.w))).Nodup
theorem call_dictT:CallR X (.type "dict") (fun xs H Q=>∃ a kvs,xs=[.ref a]∧Rd H a (.dT kvs)∧HashN X (kvs.map (·.1))∧∀ p,H p=none→Q (.ref p) (upd H p (.dT kvs))):=by
 intro pins s σ H xs us Q I r h
 obtain ⟨a,kvs,rfl,e,hN,q⟩:=h
 obtain ⟨u,rfl,ru⟩:=vals1 r
 cases ru
 obtain ⟨z,hd,ys,rel,o,es,ep,h1,h2,h3,h4,h5⟩:=(show ObjOk X.prog X.w H s.heap a (.dT kvs) from rd_of I.hok e)
 have hs:es.size=ys.length:=by rw [← Array.length_toList,h4,List.length_map]
 have hl:=Paired.length rel
 have eks:∀ {kvs:List (List Key×V)} {ys:List (List Key×Addr×Value)},Paired (fun (p:List Key×V) (q:List Key×Addr×Value)=>p.1=q.1∧H q.2.1=some (.tup (p.1.map kV))∧RelV p.2 q.2.2) kvs ys→kvs.map (·.1)=ys.map (·.1):=fun r=>by
  induction r with
  |nil=>rfl
  |cons r _ ih=>rw [List.map_cons,List.map_cons,ih,r.1]
 refine dict_of hd h1 h2 h3 (fun e he=>?_) ?_ (by rw [hs,← hl];exact z) fun h' o' e' b1 b2 b3 hk=>?_
 ·rw [h4] at he
  obtain ⟨y,hy,rfl⟩:=List.mem_map.mp he
  obtain ⟨i,hi,rfl⟩:=List.mem_iff_getElem.mp hy
  obtain ⟨p,e1,_,e2,_⟩:=pair_at rel (List.getElem?_eq_getElem hi)
  obtain ⟨_,_,⟨ob,ho,hc,_⟩,_⟩:=I.tuple (xs:=p.1.map kV) (a:=ys[i].2.1) (.inl (.inl e2))
  exact ⟨_,ob,rfl,ho,hc⟩
 ·rw [h4,List.map_map]
  unfold HashN at hN
  rw [eks rel,List.map_map] at hN
  exact hN
 ·have fr:H s.heap.objs.size=none:=I.hok.fresh (Nat.le_refl _)
  refine ⟨.ref s.heap.objs.size,_,I.laid (t':=s.toks) hk (Nat.le_refl _) (show ObjOk X.prog X.w _ h' _ (.dT kvs) from ⟨z,?_,ys,KT.keeps rel fun c ys y=>by rw [upd_ne (fun q=>by rw [q,fr] at y;cases y)];exact y,o',es,e',b1,b2,b3,h4,h5⟩),rfl,q _ fr⟩
  exact beq_eq_false_iff_ne.mpr (Ne.symm (Nat.ne_of_lt I.big))
end
end L2
namespace DL
open PySem PySem.Spec L2
noncomputable def hI:Key→Int
 |.inl i=>hashInt i
 |.inr _=>0
noncomputable def hashK(k:List Key):Int:=reduceHash (Builtin.Tuple.tupleHashOf (k.map hI))
noncomputable def IKs(k:List Key):Prop:=∃ r:List Int,k=r.map Sum.inl
theorem hash_eq{P:Program}{w:World}{k:List Key}(h:IKs k):tupleKeyHash (mixKind P w) k=hashK k:=by
 obtain ⟨r,rfl⟩:=h
 unfold tupleKeyHash hashK
 rw [List.map_map,List.map_map]
 rfl
noncomputable def dDictT(f:DA):DE:=fun δ h Q=>f δ h fun ds h1=>∃ i z kvs,ds=[.ref i]∧h1[i]?=some (.dT z kvs)∧(∀ kv ∈ kvs,IKs kv.1)∧(kvs.map fun kv=>hashK kv.1).Nodup∧Q (.ref h1.length) (h1 ++ [.dT none kvs])
section
variable {X:Cx} {e:Expr} {es:List Expr} {n:Nat} {f:DA} {p pos:Pos}
theorem se_dictT(hg:Gl X "dict")(hm:X.mg "dict" = none)(ha:SA X (e :: es) n f)(he:starEach (e :: es) X.env=(false,eval e X.env) :: starEach es X.env:=by rfl)(hpl:(backTo pos (starEach es X.env)).any (·.1)=false:=by rfl) :
  SE X (.Call (.Name "dict" p) (e :: es) [] pos) (dDictT f):=PE.imp (pe_callTy call_dictT hg hm PyProof.Rows.boot_dict ha (by decide) (by decide) he hpl) fun σ H Q zz=>by
 obtain ⟨π,α,δ,h,Q',R,S,f,k⟩:=zz
 refine ⟨π,α,δ,h,_,R,S,f,fun ds h1 α1 H1 vs f1 e1 R1 q1 l1=>?_⟩
 obtain ⟨i,z,kvs,rfl,eh,hI,hn,f1⟩:=f1
 obtain ⟨v,rfl,rd⟩:=q1.inv1
 cases rd with
 |ref hp =>
  obtain ⟨us,rd,rel⟩:=R1.rdT hp eh
  have ek:us.map (·.1)=kvs.map (·.1):=rel.keys
  refine ⟨_,us,rfl,rd,?_,fun b hb=>?_⟩
  ·show ((us.map (·.1)).map (tupleKeyHash (mixKind X.prog X.w))).Nodup
   rw [ek,List.map_map]
   rw [show (kvs.map (tupleKeyHash (mixKind X.prog X.w) ∘ fun x=>x.1))=kvs.map fun kv=>hashK kv.1 from List.map_congr_left fun kv hkv=>hash_eq (hI kv hkv)]
   exact hn
  ·have e2:Ext α1 H1 (α1 ++ [b]) (upd H1 b (.dT us)):=Ext.newT hb
   refine k _ _ (α1 ++ [b]) _ _ f1 (e1.trans e2) (R1.newT hb (.dT (z:=none) upd_same (rel.mono e2))) (.ref ?_)
   rw [← R1.len];simp
end
end DL
namespace L2
open PySem PySem.Spec PyProof.Rows
section
variable {P P':Program} {w w':World}
theorem items_any{ks:List Key}{vs:List Value}(h:ItemsAre (mixKind P w) ks vs):ItemsAre (mixKind P' w') ks vs:=by
 induction h with
 |nil=>exact .nil
 |cons h _ ih=>exact .cons h ih
theorem key_any{h:Heap}{ks:List Key}{a:Addr}(x:IsTupleKey (mixKind P w) h ks a):IsTupleKey (mixKind P' w') h ks a:=by
 obtain ⟨o,its,n,ho,hc,hd,hi⟩:=x
 exact ⟨o,its,n,ho,hc,hd,items_any hi⟩
end
structure DT(h:Heap)(a:Addr)(xs:List (List Key×Addr×Value)):Prop where
 sys:(a == sysModules)=false
 at_:∃ o es ep,h.get? a=some o∧o.ExactDict∧o.data = .dict es ep∧∀ P w,es.toList=xs.map (entryOfKey (tupleKind (mixKind P w)))
 keys:∀ P w,∀ x ∈ xs,IsTupleKey (mixKind P w) h x.1 x.2.1
 nod:(xs.map (·.1)).Nodup
section
variable {A:Around} {s:Shared} {a b:Addr} {xs ys:List (List Key×Addr×Value)}
theorem same_pairs{prog:Program}{w:World}{E:Value→Shared→Prop}{nm:String}{Q:Bool→Shared→Prop}(hu:A.units < cLine)(ha:DT s.heap a xs)(hb:DT s.heap b ys)(hl:xs.length=ys.length)
  (he:∀ x ∈ xs,∃ y ∈ ys,y.1=x.1∧SeqAt.EqAt A s x.2.2 y.2.2 true) (h:Q true s):wpAny (model prog w) A (Builtin.Dict.samePairs nm a b) Q E s:=by
 obtain ⟨oa,es,ep,hoa,_,hda,ea⟩:=ha.at_
 obtain ⟨ob,es',ep',hob,_,hdb,eb⟩:=hb.at_
 have ea:=ea prog w
 have eb:=eb prog w
 have la:es.size=xs.length:=by rw [← Array.length_toList,ea,List.length_map]
 have lb:es'.size=ys.length:=by rw [← Array.length_toList,eb,List.length_map]
 have rm:(tupleKind (mixKind prog w)).room A:=hu
 unfold Builtin.Dict.samePairs Builtin.Dict.showsAll
 rw [if_neg (show ¬ (a == sysModules)=true by rw [ha.sys];exact Bool.false_ne_true),if_neg (show ¬ (b == sysModules)=true by rw [hb.sys];exact Bool.false_ne_true)]
 refine wpAny_bind (wpAny_pure (wpAny_bind (wpAny_pure ?_)))
 refine wpAny_bind (wpAny_dictEntries hoa hda ?_)
 dsimp only
 refine wpAny_bind (wpAny_dictEntries hob hdb ?_)
 rw [if_neg (by rw [la,lb,hl];simp)]
 refine wpAny_bind (wpAny_dictEpoch hoa hda ?_)
 rw [Std.Legacy.Range.forIn_eq_forIn_range']
 simp only [Std.Legacy.Range.size,Nat.sub_zero,Nat.add_sub_cancel,Nat.div_one]
 refine wpAny_bind (wpAny_forIn_list _ (fun rest q s'=>s'=s∧q=(none,())∧∀ i ∈ rest,i < es.size) _ ?_ ?_ _ _ ⟨rfl,rfl,fun i hi=>by simpa using hi⟩)
 ·rintro i rest q s' ⟨rfl,rfl,hr⟩
  have hi:=hr i List.mem_cons_self
  have hx:i < xs.length:=la ▸ hi
  refine wpAny_bind (wpAny_dictEntries hoa hda ?_)
  have e1:es[i]?=some (entryOfKey (tupleKind (mixKind prog w)) xs[i]):=by rw [← Array.getElem?_toList,ea,List.getElem?_map,List.getElem?_eq_getElem hx];rfl
  rw [e1]
  obtain ⟨y,hy,ek,ev⟩:=he xs[i] (List.getElem_mem hx)
  have hkey:(tupleKind (mixKind prog w)).is s'.heap xs[i].1 xs[i].2.1:=ha.keys prog w _ (List.getElem_mem hx)
  refine wpAny_bind (wpAny_holding (wpAny_bind (wpAny_dictFind_heap rm hkey hob hdb eb (hb.keys prog w) hb.nod ?_ ?_)))
  ·intro hno
   obtain ⟨j,hj,rfl⟩:=List.mem_iff_getElem.mp hy
   exact absurd (by rw [List.getElem?_eq_getElem hj,← ek]) (hno j ys[j].2)
  ·intro j p hj
   have hp:p=y.2:=by
    obtain ⟨m,hm,rfl⟩:=List.mem_iff_getElem.mp hy
    obtain ⟨hj',ej⟩:=List.getElem?_eq_some_iff.mp hj
    have nd:=List.pairwise_iff_getElem.mp hb.nod
    have key:m=j:=by
     rcases Nat.lt_trichotomy m j with z | z | z
     ·exact (nd m j (by simpa using hm) (by simpa using hj') z (by rw [List.getElem_map,List.getElem_map,ej];exact ek)).elim
     ·exact z
     ·exact (nd j m (by simpa using hj') (by simpa using hm) z (by rw [List.getElem_map,List.getElem_map,ej];exact ek.symm)).elim
    subst key
    rw [ej]
   refine wpAny_bind (wpAny_dictEntries hob hdb ?_)
   have e2:es'[j]?=some (entryOfKey (tupleKind (mixKind prog w)) (xs[i].1,p)):=by rw [← Array.getElem?_toList,eb,List.getElem?_map,hj];rfl
   rw [e2,hp]
   refine wpAny_holding (ev prog w _ _ ?_)
   simp only [Bool.not_true,Bool.false_eq_true,if_false]
   refine wpAny_bind (wpAny_dictEpoch hoa hda ?_)
   rw [if_neg (by simp)]
   exact wpAny_pure ⟨rfl,rfl,fun i hi=>hr i (List.mem_cons_of_mem _ hi)⟩
 ·rintro q s' ⟨rfl,rfl,_⟩
  exact wpAny_pure h
theorem rc_dicts(hu:A.units + 1 < cLine)(ha:DT s.heap a xs)(hb:DT s.heap b ys)(hl:xs.length=ys.length)(he:∀ x ∈ xs,∃ y ∈ ys,y.1=x.1∧SeqAt.EqAt A.in1 s x.2.2 y.2.2 true):SeqAt.RcAt A s (.ref a) (.ref b) true:=fun prog w E Q h=>by
 obtain ⟨oa,_,_,hoa,hxa,_⟩:=ha.at_
 obtain ⟨ob,_,_,hob,hxb,_⟩:=hb.at_
 have ta:s.TypeIs (.ref a) "dict":=⟨oa,hoa,hxa.1⟩
 have tb:s.TypeIs (.ref b) "dict":=⟨ob,hob,hxb.1⟩
 refine wpAny_richCompare_same_room (op:=.Eq) ta tb PySem.F.slot_dict_eq (wpAny_call_entry PySem.F.slot_dict_eq ta PySem.F.entry_dict_eq ?_ (PySem.F.args_dict_eq_2 _ _)) (Nat.lt_of_succ_lt hu)
 refine wpAny_bind ?_
 unfold Builtin.Dict.dictSlotArgs
 refine wpAny_bind (wpAny_notOrdered_dict ta ?_)
 show wpAny _ _ (pure (Value.ref a,Value.ref b)) _ _ s
 refine wpAny_pure ?_
 refine wpAny_bind (wpAny_isInstance (T:= "dict") tb PySem.F.sub_dict_dict ?_)
 simp only [Bool.not_true,Bool.false_eq_true,if_false]
 refine wpAny_bind (wpAny_pure (wpAny_bind (wpAny_pure ?_)))
 refine wpAny_bind (same_pairs (show A.in1.units < cLine from hu) ha hb hl he ?_)
 exact wpAny_pure ⟨_,rfl,(fun x=>nomatch x),h⟩
theorem eq_dicts(hu:A.units + 1 < cLine)(ha:DT s.heap a xs)(hb:DT s.heap b ys)(hl:xs.length=ys.length)(he:∀ x ∈ xs,∃ y ∈ ys,y.1=x.1∧SeqAt.EqAt A.in1 s x.2.2 y.2.2 true):SeqAt.EqAt A s (.ref a) (.ref b) true:=by
 by_cases c:a=b
 ·subst c;exact SeqAt.EqAt.same _
 ·exact SeqAt.EqAt.of_refs c (rc_dicts hu ha hb hl he)
end
section
variable {X:Cx} {pins:List (Addr×Obj)} {σ:St} {H:Hp} {s:Shared} {a b:Addr} {A:Around}
noncomputable def IntV(kvs:List (List Key×V)):Prop:=∀ p ∈ kvs,DL.IKs p.1∧∃ n,p.2=V.int n
theorem dt_any(I:Inv X pins σ H s){kvs:List (List Key×V)}(e:Rd H a (.dT kvs))(hi:IntV kvs):∃ xs,DT s.heap a xs∧Paired (fun (p:List Key×V) (q:List Key×Addr×Value)=>p.1=q.1∧RelV p.2 q.2.2) kvs xs:=by
 obtain ⟨z,hd,ys,rel,o,es,ep,h1,h2,h3,h4,h5⟩:=(show ObjOk X.prog X.w H s.heap a (.dT kvs) from rd_of I.hok e)
 have at_:∀ y ∈ ys,∃ p ∈ kvs,p.1=y.1∧H y.2.1=some (.tup (p.1.map kV)):=fun y hy=>by
  obtain ⟨i,hi,rfl⟩:=List.mem_iff_getElem.mp hy
  obtain ⟨p,e1,e0,e2,_⟩:=pair_at rel (List.getElem?_eq_getElem hi)
  exact ⟨p,List.mem_of_getElem? e1,e0,e2⟩
 refine ⟨ys,⟨hd,⟨o,es,ep,h1,h2,h3,fun P w=>?_⟩,fun P w y hy=>?_,h5⟩,Paired.mapP rel fun p q r=>⟨r.1,r.2.2⟩⟩
 ·rw [h4]
  refine List.map_congr_left fun y hy=>?_
  obtain ⟨p,hp,e0,_⟩:=at_ y hy
  have hk:=(hi p hp).1
  rw [e0] at hk
  show DictEntry.mk _ _ _=DictEntry.mk _ _ _
  rw [show (tupleKind (mixKind X.prog X.w)).hash y.1=DL.hashK y.1 from DL.hash_eq hk,show (tupleKind (mixKind P w)).hash y.1=DL.hashK y.1 from DL.hash_eq hk]
 ·obtain ⟨p,hp,e0,e2⟩:=at_ y hy
  have:=key_of I.hok e2
  rw [e0] at this
  exact key_any this
theorem eq_same(I:Inv X pins σ H s){kvs:List (List Key×V)}(hu:A.units + 1 < cLine)(e:Rd H a (.dT kvs))(e':Rd H b (.dT kvs))(hi:IntV kvs):SeqAt.EqAt A s (.ref a) (.ref b) true:=by
 obtain ⟨xs,d1,r1⟩:=dt_any I e hi
 obtain ⟨ys,d2,r2⟩:=dt_any I e' hi
 refine eq_dicts hu d1 d2 ((Paired.length r1).symm.trans (Paired.length r2)) fun x hx=>?_
 obtain ⟨i,hix,rfl⟩:=List.mem_iff_getElem.mp hx
 obtain ⟨p,p1,p2,p3⟩:=pair_at r1 (List.getElem?_eq_getElem hix)
 have hiy:i < ys.length:=by rw [← Paired.length r2,Paired.length r1];exact hix
 obtain ⟨q,q1,q2,q3⟩:=pair_at r2 (List.getElem?_eq_getElem hiy)
 rw [p1] at q1;cases q1
 obtain ⟨n,en⟩:=(hi p (List.mem_of_getElem? p1)).2
 rw [en] at p3 q3
 obtain ⟨t,et⟩:=p3
 obtain ⟨u,eu⟩:=q3
 refine ⟨ys[i],List.getElem_mem hiy,q2.symm.trans p2,?_⟩
 rw [et,eu]
 have:=SeqAt.EqAt.int_int (A:=A.in1) (s:=s) n t n u
 rwa [beq_self_eq_true] at this
theorem op_eqDD(hu:X.A.units + 64 < cLine):OpR X (compareOp .Eq) (fun x y H Q=>∃ a b a1 a2 b1 b2 us vs,x = .ref a∧y = .ref b∧SqT X.K H a [.ref a1,.ref a2]∧SqT X.K H b [.ref b1,.ref b2]∧Rd H a1 (.dT us)∧Rd H b1 (.dT us)∧Rd H a2 (.dT vs)∧Rd H b2 (.dT vs)∧IntV us∧IntV vs∧Q (.bl true) H):=by
 intro pins s σ H x y v u Q I rx ry h
 obtain ⟨a,b,a1,a2,b1,b2,us,vs,rfl,rfl,ha,hb,d1,d2,d3,d4,i1,i2,q⟩:=h
 cases rx
 cases ry
 obtain ⟨its,rv,⟨o,ho,hc,n,hd⟩,_⟩:=I.tuple ha
 obtain ⟨its',rv',⟨o',ho',hc',n',hd'⟩,_⟩:=I.tuple hb
 obtain ⟨u1,u2,rfl,r1,r2⟩:=vals2 rv
 obtain ⟨w1,w2,rfl,r3,r4⟩:=vals2 rv'
 cases r1;cases r2;cases r3;cases r4
 have hu1:X.A.in1.units + 1 < cLine:=by show X.A.units + 1 + 1 < cLine;omega
 refine SeqAt.eq_tupleAt (e:=fun _=>true) ⟨o,ho,hc,n,hd⟩ ⟨o',ho',hc',n',hd'⟩ (by omega) (fun j h1 h2=>?_) ?_
 ·match j,h1 with
  |0,_=>exact eq_same I hu1 d1 d2 i1
  |1,_=>exact eq_same I hu1 d3 d4 i2
 ·exact ⟨.bl true,H,I,rfl,q⟩
end
end L2
namespace DL
open PySem PySem.Spec L2
noncomputable def IntD(kvs:List (List Key×D)):Prop:=∀ kv ∈ kvs,IKs kv.1∧∃ n,kv.2 = .int n
noncomputable def pEqDD:P2:=fun x y h Q=>∃ i j k l z1 z2 z3 z4 kvs kws,x = .tup [.ref i,.ref j]∧y = .tup [.ref k,.ref l]∧h[i]?=some (.dT z1 kvs)∧h[k]?=some (.dT z2 kvs)∧h[j]?=some (.dT z3 kws)∧h[l]?=some (.dT z4 kws)∧IntD kvs∧IntD kws∧Q (.bl true) h
theorem RelKV.ints{K:KP}{α:List Addr}{H:Hp}{kvs:List (List Key×D)}{us vs:List (List Key×V)}(h:IntD kvs)(a:RelKV K α H kvs us)(b:RelKV K α H kvs vs):us=vs∧IntV us:=by
 induction a generalizing vs with
 |nil=>cases b;exact ⟨rfl,fun p hp=>(nomatch hp)⟩
 |@cons k d u ds us r1 t1 ih =>
  cases b with
  |cons r2 t2 =>
   obtain ⟨e,i⟩:=ih (fun kv hkv=>h kv (List.mem_cons_of_mem _ hkv)) t2
   obtain ⟨h1,n,h2⟩:=h (k,d) List.mem_cons_self
   dsimp only at h1 h2
   subst h2
   cases r1;cases r2
   refine ⟨by rw [e],fun p hp=>?_⟩
   rcases List.mem_cons.mp hp with rfl | hp
   ·exact ⟨h1,n,rfl⟩
   ·exact i p hp
theorem ok_eqDD{X:Cx}(hu:X.A.units + 64 < cLine):OpR X (compareOp .Eq) (r2 X.K pEqDD):=OpR.imp (op_eqDD hu) fun x y H Q ⟨π,α,h,d,e,Q',R,r1,r2,f,k⟩=>by
 obtain ⟨i,j,m,l,z1,z2,z3,z4,kvs,kws,rfl,rfl,e1,e2,e3,e4,n1,n2,q⟩:=f
 obtain ⟨a,us,rfl,hs,ru⟩:=tup_sq r1
 obtain ⟨b,vs,rfl,hs',rv⟩:=tup_sq r2
 obtain ⟨u1,u2,rfl,q1,q2⟩:=ru.inv2
 obtain ⟨v1,v2,rfl,q3,q4⟩:=rv.inv2
 cases q1 with | ref p1=>cases q2 with | ref p2=>cases q3 with | ref p3=>cases q4 with | ref p4 =>
 obtain ⟨us1,rd1,rel1⟩:=R.rdT p1 e1
 obtain ⟨us2,rd2,rel2⟩:=R.rdT p3 e2
 obtain ⟨us3,rd3,rel3⟩:=R.rdT p2 e3
 obtain ⟨us4,rd4,rel4⟩:=R.rdT p4 e4
 obtain ⟨rfl,i1⟩:=RelKV.ints n1 rel1 rel2
 obtain ⟨rfl,i2⟩:=RelKV.ints n2 rel3 rel4
 exact ⟨a,b,_,_,_,_,us1,us3,rfl,rfl,hs,hs',rd1,rd2,rd3,rd4,i1,i2,k _ h α H _ q (Ext.refl ..) R (.bl true)⟩
end DL
namespace DL
open PySem PySem.Spec L2
noncomputable def dPar(i j:Nat)(fs:DA):DS:=fun E δ h=>fs δ h fun ds h1=>∃ a b,ds=[a,b]∧E.nx ((δ.set i (some a)).set j (some b)) h1
theorem s_par{X:Cx}{i j n:Nat}{x y:Str}{a b:Expr}{fs:DA}{px py pt pos:Pos}{kt k2 pt2}(hc:X.calm=true)(hN:X.N.Nodup)(hi:X.N[i]?=some x)(hj:X.N[j]?=some y)(hij:i ≠ j)
  (hx:X.env.scope.names.lookup x=some .local) (hy:X.env.scope.names.lookup y=some .local) (ha:SA X [a,b] n fs)
  (hw:swappedStores [.Tuple [.Name x px,.Name y py] kt pt] (.Tuple [a,b] k2 pt2) X.env=pure (some [x,y]):=by rfl)
  (hs:swapsWithSole [.Tuple [.Name x px,.Name y py] kt pt] (.Tuple [a,b] k2 pt2) pos.line X.env=pure false:=by rfl) :
  SS X (.Assign [.Tuple [.Name x px,.Name y py] kt pt] (.Tuple [a,b] k2 pt2) pos) (dPar i j fs):=PS.imp (ps_par hc hN hi hj hij hx hy ha hw hs) fun F σ H zz=>by
 obtain ⟨π,α,δ,h,E,R,S,f,k⟩:=zz
 refine ⟨π,α,δ,h,_,R,S,f,fun ds h1 α1 H1 vs f1 e1 R1 q1 l1=>?_⟩
 obtain ⟨d1,d2,rfl,f1⟩:=f1
 obtain ⟨v1,v2,rfl,r1,r2⟩:=q1.inv2
 exact ⟨v1,v2,rfl,k.nx _ h1 α1 H1 _ f1 e1 R1 (((S.mono e1).set i r1).set j r2)⟩
end DL
namespace CM
open PySem L2 DL
noncomputable abbrev Kt:=List Nat
noncomputable abbrev Ct:=List (Kt×Nat)
noncomputable def kN(k:Kt):List Key:=k.map fun n:Nat=>.inl (n:Int)
noncomputable def tbD(m:Ct):List (List Key×D):=m.map fun x=>(kN x.1,nD x.2)
noncomputable def tkD(k:Kt):D:=.tup (k.map nD)
noncomputable def pkD(x:Kt×Nat):D:=.tup [tkD x.1,nD x.2]
noncomputable def look(m:Ct)(k:Kt):Option Nat:=(m.find? fun x=>decide (x.1=k)).map (·.2)
noncomputable def putT(m:Ct)(k:Kt)(v:Nat):Ct:=if (m.any fun x=>decide (x.1=k))=true then m.map (fun x=>if x.1=k then (x.1,v) else x) else m ++ [(k,v)]
noncomputable def cutT(m:Ct)(k:Kt):Ct:=m.filter fun x=>decide (x.1 ≠ k)
theorem keyD_kN(k:Kt):keyD (kN k)=tkD k:=by unfold keyD kN tkD;rw [List.map_map];rfl
theorem kN_inj:∀ {a b:Kt},kN a=kN b→a=b
 |[],[],_=>rfl
 |[],_ :: _,h=>nomatch h
 |_ :: _,[],h=>nomatch h
 |x :: a,y :: b,h=>by
  have h:(Sum.inl (x:Int):Key) :: kN a=Sum.inl (y:Int) :: kN b:=h
  injection h with h1 h2
  injection h1 with h1
  rw [Int.ofNat.inj h1,kN_inj h2]
theorem kN_iff{a b:Kt}:kN a=kN b ↔ a=b:=⟨kN_inj,fun h=>by rw [h]⟩
theorem dec_kN(a b:Kt):decide (kN a=kN b)=decide (a=b):=decide_eq_decide.mpr kN_iff
theorem val_tb(m:Ct)(k:Kt):valD (tbD m) (kN k)=(look m k).map nD:=by
 unfold valD tbD look
 rw [List.find?_map,Option.map_map,Option.map_map]
 have:((fun kv:List Key×D=>decide (kv.1=kN k)) ∘ fun x:Kt×Nat=>(kN x.1,nD x.2))=fun x=>decide (x.1=k):=by funext x;exact dec_kN _ _
 rw [this];rfl
theorem put_tb(m:Ct)(k:Kt)(v:Nat):putD (tbD m) (kN k) (nD v)=tbD (putT m k v):=by
 unfold putD tbD putT
 rw [List.any_map]
 have:((fun kv:List Key×D=>decide (kv.1=kN k)) ∘ fun x:Kt×Nat=>(kN x.1,nD x.2))=fun x=>decide (x.1=k):=by funext x;exact dec_kN _ _
 rw [this]
 by_cases c:(m.any fun x=>decide (x.1=k))=true
 ·rw [if_pos c,if_pos c,List.map_map,List.map_map]
  congr 1;funext x
  show (if kN x.1=kN k then (kN x.1,nD v) else (kN x.1,nD x.2))=_
  by_cases e:x.1=k
  ·rw [if_pos (by rw [e])];show _=(fun x:Kt×Nat=>(kN x.1,nD x.2)) (if x.1=k then (x.1,v) else x);rw [if_pos e]
  ·rw [if_neg fun z=>e (kN_inj z)];show _=(fun x:Kt×Nat=>(kN x.1,nD x.2)) (if x.1=k then (x.1,v) else x);rw [if_neg e]
 ·rw [if_neg c,if_neg c,List.map_append];rfl
theorem cut_tb(m:Ct)(k:Kt):dropD (tbD m) (kN k)=tbD (cutT m k):=by
 unfold dropD tbD cutT
 rw [List.filter_map]
 have:((fun kv:List Key×D=>decide (kv.1 ≠ kN k)) ∘ fun x:Kt×Nat=>(kN x.1,nD x.2))=fun x=>decide (x.1 ≠ k):=by
  funext x;exact decide_eq_decide.mpr (not_congr kN_iff)
 rw [this]
theorem tb_len(m:Ct):(tbD m).length=m.length:=List.length_map ..
theorem get_tb{h:Hh}{i:Nat}{z:Option Obj}{m:Ct}{k:Kt}{Q:Option D→Prop}(e:h[i]?=some (.dT z (tbD m)))(q:Q ((look m k).map nD)):DL.getD (.ref i) (tkD k) h Q:=by
 show (match h[i]? with | some (.dT _ kvs)=>∃ ks,tkD k=keyD ks∧Q (valD kvs ks) | _=>False)
 rw [e]
 exact ⟨kN k,(keyD_kN k).symm,by rw [val_tb];exact q⟩
theorem isDD_tb{h:Hh}{i:Nat}{z:Option Obj}{m:Ct}(e:h[i]?=some (.dT z (tbD m))):isDD (.ref i) h:=⟨i,z,_,rfl,e⟩
theorem putH_tb{h:Hh}{i:Nat}{m:Ct}{k:Kt}{v:Nat}{Q:Hh→Prop}(e:h[i]?=some (.dT none (tbD m)))(hl:m.length < 16777216)(q:Q (h.set i (.dT none (tbD (putT m k v))))):putH (.ref i) (tkD k) (nD v) h Q:=by
 show (match h[i]? with | some (.dT none kvs)=>∃ ks,tkD k=keyD ks∧kvs.length < 16777216∧Q (h.set i (.dT none (putD kvs ks (nD v)))) | _=>False)
 rw [e]
 exact ⟨kN k,(keyD_kN k).symm,by rw [tb_len];exact hl,by rw [put_tb];exact q⟩
noncomputable def keys(m:Ct):List Kt:=m.map (·.1)
theorem look_cons(x:Kt×Nat)(m:Ct)(k:Kt):look (x :: m) k=if x.1=k then some x.2 else look m k:=by
 unfold look
 rw [List.find?_cons]
 by_cases e:x.1=k
 ·rw [decide_eq_true e,if_pos e];rfl
 ·rw [decide_eq_false e,if_neg e]
theorem look_mem{m:Ct}{k:Kt}{c:Nat}(h:look m k=some c):(k,c) ∈ m:=by
 induction m with
 |nil=>cases h
 |cons x m ih =>
  rw [look_cons] at h
  by_cases e:x.1=k
  ·rw [if_pos e] at h;cases h;subst e;exact List.mem_cons_self
  ·rw [if_neg e] at h;exact List.mem_cons_of_mem _ (ih h)
theorem look_of{m:Ct}(nd:(keys m).Nodup){k:Kt}{c:Nat}(h:(k,c) ∈ m):look m k=some c:=by
 induction m with
 |nil=>cases h
 |cons x m ih =>
  have nd:(x.1 :: keys m).Nodup:=nd
  rw [List.nodup_cons] at nd
  rw [look_cons]
  rcases List.mem_cons.mp h with z | z
  ·subst z;rw [if_pos rfl]
  ·rw [if_neg fun e=>nd.1 (by rw [e];exact List.mem_map.mpr ⟨_,z,rfl⟩)];exact ih nd.2 z
theorem look_key{m:Ct}{k:Kt}:k ∈ keys m ↔ ∃ c,look m k=some c:=by
 constructor
 ·intro h
  induction m with
  |nil=>cases h
  |cons x m ih =>
   rw [look_cons]
   by_cases e:x.1=k
   ·rw [if_pos e];exact ⟨_,rfl⟩
   ·rw [if_neg e]
    rcases List.mem_cons.mp h with z | z
    ·exact absurd z.symm e
    ·exact ih z
 ·rintro ⟨c,h⟩;exact List.mem_map.mpr ⟨_,look_mem h,rfl⟩
theorem look_app(m:Ct)(k k':Kt)(v:Nat):look (m ++ [(k,v)]) k'=(look m k').or (if k=k' then some v else none):=by
 induction m with
 |nil=>rw [List.nil_append,look_cons];rfl
 |cons x m ih =>
  rw [List.cons_append,look_cons,look_cons]
  by_cases e:x.1=k'
  ·rw [if_pos e,if_pos e];rfl
  ·rw [if_neg e,if_neg e];exact ih
theorem any_key{m:Ct}{k:Kt}:(m.any fun x=>decide (x.1=k))=true ↔ k ∈ keys m:=by
 rw [List.any_eq_true]
 constructor
 ·rintro ⟨x,h,e⟩;exact List.mem_map.mpr ⟨x,h,of_decide_eq_true e⟩
 ·intro h;obtain ⟨x,h,e⟩:=List.mem_map.mp h;exact ⟨x,h,decide_eq_true e⟩
theorem look_rep(k k':Kt)(v:Nat):∀ m:Ct,look (m.map fun x=>if x.1=k then (x.1,v) else x) k'=if k=k' then (look m k').map fun _=>v else look m k'
 |[]=>by split <;> rfl
 |x :: m=>by
  rw [List.map_cons,look_cons,look_cons,look_rep k k' v m]
  by_cases e:x.1=k
  ·rw [if_pos e]
   by_cases e2:k=k'
   ·rw [if_pos (by exact e.trans e2),if_pos e2,if_pos (e.trans e2)];rfl
   ·rw [if_neg (fun z=>e2 (e.symm.trans z)),if_neg e2,if_neg e2,if_neg (fun z=>e2 (e.symm.trans z))]
  ·rw [if_neg e]
   by_cases e2:x.1=k'
   ·rw [if_pos e2,if_neg (fun z=>e (e2.trans z.symm)),if_pos e2]
   ·rw [if_neg e2,if_neg e2]
theorem look_put(m:Ct)(k k':Kt)(v:Nat):look (putT m k v) k'=if k=k' then some v else look m k':=by
 unfold putT
 by_cases c:(m.any fun x=>decide (x.1=k))=true
 ·rw [if_pos c,look_rep]
  by_cases e:k=k'
  ·rw [if_pos e,if_pos e]
   obtain ⟨w,hw⟩:=look_key.mp (any_key.mp c)
   rw [← e,hw];rfl
  ·rw [if_neg e,if_neg e]
 ·rw [if_neg c,look_app]
  by_cases e:k=k'
  ·rw [if_pos e,if_pos e]
   have:look m k'=none:=by
    cases q:look m k' with
    |none=>rfl
    |some w=>exact absurd (any_key.mpr (look_key.mpr ⟨w,by rw [e];exact q⟩)) c
   rw [this];rfl
  ·rw [if_neg e,if_neg e];cases look m k' <;> rfl
theorem keys_put(m:Ct)(k:Kt)(v:Nat):keys (putT m k v)=if k ∈ keys m then keys m else keys m ++ [k]:=by
 unfold putT
 by_cases c:(m.any fun x=>decide (x.1=k))=true
 ·rw [if_pos c,if_pos (any_key.mp c)]
  unfold keys
  rw [List.map_map]
  congr 1;funext x
  show (if x.1=k then (x.1,v) else x).1=x.1
  split <;> rfl
 ·rw [if_neg c,if_neg (fun z=>c (any_key.mpr z))];unfold keys;rw [List.map_append];rfl
theorem nodup_snoc{α:Type}{l:List α}{a:α}(h:l.Nodup)(n:a ∉ l):(l ++ [a]).Nodup:=by
 rw [List.nodup_append]
 exact ⟨h,by simp,fun x hx y hy=>by rw [List.mem_singleton.mp hy];exact fun z=>n (z ▸ hx)⟩
structure TOk(V:Kt→Prop)(m:Ct):Prop where
 nd:(keys m).Nodup
 all:∀ k ∈ keys m,V k
theorem TOk.put{V:Kt→Prop}{m:Ct}{k:Kt}{v:Nat}(h:TOk V m)(hk:V k):TOk V (putT m k v):=by
 have e:=keys_put m k v
 by_cases c:k ∈ keys m
 ·rw [if_pos c] at e;exact ⟨by rw [e];exact h.nd,by rw [e];exact h.all⟩
 ·rw [if_neg c] at e
  refine ⟨by rw [e];exact nodup_snoc h.nd c,fun k' hk'=>?_⟩
  rw [e] at hk'
  rcases List.mem_append.mp hk' with z | z
  ·exact h.all _ z
  ·rw [List.mem_singleton.mp z];exact hk
theorem TOk.nil{V:Kt→Prop}:TOk V []:=⟨List.nodup_nil,fun _ h=>nomatch h⟩
theorem look_cut(m:Ct)(k k':Kt):look (cutT m k) k'=if k=k' then none else look m k':=by
 induction m with
 |nil=>split <;> rfl
 |cons x m ih =>
  have ih:look (m.filter fun x=>decide (x.1 ≠ k)) k'=_:=ih
  unfold cutT
  rw [List.filter_cons,look_cons]
  by_cases e:x.1=k
  ·rw [if_neg (by rw [decide_eq_false (fun z=>z e)];exact Bool.false_ne_true),ih]
   by_cases e2:k=k'
   ·rw [if_pos e2,if_pos e2]
   ·rw [if_neg e2,if_neg e2,if_neg (fun z=>e2 (e.symm.trans z))]
  ·rw [if_pos (decide_eq_true e),look_cons,ih]
   by_cases e2:x.1=k'
   ·rw [if_pos e2,if_pos e2,if_neg (fun z=>e (e2.trans z.symm))]
   ·rw [if_neg e2,if_neg e2]
theorem TOk.cut{V:Kt→Prop}{m:Ct}{k:Kt}(h:TOk V m):TOk V (cutT m k):=by
 have s:(keys (cutT m k)).Sublist (keys m):=(List.filter_sublist (l:=m)).map _
 exact ⟨h.nd.sublist s,fun k' hk'=>h.all k' (s.subset hk')⟩
noncomputable def Met(m:Ct)(x:Kt×Nat):Prop:=∃ c,look m x.1=some c∧c ≤ x.2
noncomputable def met(m:Ct)(x:Kt×Nat):Bool:=match look m x.1 with | some c=>decide (c ≤ x.2) | none=>false
theorem met_iff{m:Ct}{x:Kt×Nat}:met m x=true ↔ Met m x:=by
 unfold met Met
 cases look m x.1 with
 |none=>refine ⟨fun h=>?_,fun ⟨_,h,_⟩=>?_⟩ <;> cases h
 |some c=>exact ⟨fun h=>⟨c,rfl,of_decide_eq_true h⟩,fun ⟨c',h,h2⟩=>by cases h;exact decide_eq_true h2⟩
noncomputable def low1(s:Ct×Bool)(x:Kt×Nat):Ct×Bool:=if met s.1 x=true then s else (putT s.1 x.1 x.2,true)
noncomputable def lower(m:Ct)(l:Ct):Ct×Bool:=l.foldl low1 (m,false)
noncomputable def Le(m m':Ct):Prop:=∀ k c,look m k=some c→∃ c',look m' k=some c'∧c' ≤ c
theorem Le.refl(m:Ct):Le m m:=fun _ c h=>⟨c,h,Nat.le_refl _⟩
theorem Le.trans{a b c:Ct}(h:Le a b)(h':Le b c):Le a c:=fun k x e=>let ⟨y,e1,l1⟩:=h k x e;let ⟨z,e2,l2⟩:=h' k y e1;⟨z,e2,Nat.le_trans l2 l1⟩
theorem not_met{m:Ct}{x:Kt×Nat}(h:¬ met m x=true){c:Nat}(e:look m x.1=some c):x.2 < c:=by
 rw [met_iff] at h
 exact Nat.lt_of_not_le fun z=>h ⟨c,e,z⟩
theorem Le.put{m:Ct}{x:Kt×Nat}(h:¬ met m x=true):Le m (putT m x.1 x.2):=fun k c e=>by
 rw [look_put]
 by_cases z:x.1=k
 ·rw [if_pos z];exact ⟨x.2,rfl,Nat.le_of_lt (not_met h (z ▸ e))⟩
 ·rw [if_neg z];exact ⟨c,e,Nat.le_refl _⟩
theorem Le.low{s:Ct×Bool}{x:Kt×Nat}:Le s.1 (low1 s x).1:=by
 unfold low1
 by_cases c:met s.1 x=true
 ·rw [if_pos c];exact Le.refl _
 ·rw [if_neg c];exact Le.put c
theorem Le.met{m m':Ct}(l:Le m m'){x:Kt×Nat}(h:Met m x):Met m' x:=let ⟨c,e,h⟩:=h;let ⟨c',e',h'⟩:=l _ _ e;⟨c',e',Nat.le_trans h' h⟩
theorem Le.fold:∀ {l:Ct} {s:Ct×Bool},Le s.1 (l.foldl low1 s).1
 |[],s=>Le.refl _
 |x :: l,s=>Le.trans Le.low (Le.fold (l:=l))
theorem low_true{s:Ct×Bool}{x:Kt×Nat}(h:s.2=true):(low1 s x).2=true:=by
 unfold low1
 split
 ·exact h
 ·rfl
theorem fold_true:∀ {l:Ct} {s:Ct×Bool},s.2=true→(l.foldl low1 s).2=true
 |[],s,h=>h
 |x :: l,s,h=>fold_true (l:=l) (low_true h)
theorem fold_false:∀ {l:Ct} {s:Ct×Bool},(l.foldl low1 s).2=false→l.foldl low1 s=s∧∀ x ∈ l,Met s.1 x
 |[],s,h=>⟨rfl,fun _ z=>nomatch z⟩
 |x :: l,s,h=>by
  have h:(l.foldl low1 (low1 s x)).2=false:=h
  by_cases c:met s.1 x=true
  ·have e:low1 s x=s:=if_pos c
   rw [e] at h
   obtain ⟨h1,h2⟩:=fold_false h
   refine ⟨by show l.foldl low1 (low1 s x)=s;rw [e];exact h1,fun y hy=>?_⟩
   rcases List.mem_cons.mp hy with z | z
   ·rw [z];exact met_iff.mp c
   ·exact h2 y z
  ·have e:low1 s x=(putT s.1 x.1 x.2,true):=if_neg c
   rw [fold_true (by rw [e])] at h;cases h
theorem lower_false{m l:Ct}(h:(lower m l).2=false):(lower m l).1=m∧∀ x ∈ l,Met m x:=by
 obtain ⟨h1,h2⟩:=fold_false h
 exact ⟨by unfold lower;rw [h1],h2⟩
theorem TOk.fold{V:Kt→Prop}:∀ {l:Ct} {s:Ct×Bool},TOk V s.1→(∀ x ∈ l,V x.1)→TOk V (l.foldl low1 s).1
 |[],s,h,_=>h
 |x :: l,s,h,hl=>by
  refine TOk.fold (l:=l) ?_ fun y hy=>hl y (List.mem_cons_of_mem _ hy)
  unfold low1
  split
  ·exact h
  ·exact h.put (hl x List.mem_cons_self)
theorem fold_just{J:Ct→Kt→Nat→Prop}{m0:Ct}(hJ:∀ {m m':Ct},Le m m'→∀ {k c},J m k c→J m' k c):∀ {l:Ct} {s:Ct×Bool},Le m0 s.1→(∀ x ∈ l,∀ m,Le m0 m→¬ Met m x→J m x.1 x.2)→(∀ k c,look s.1 k=some c→J s.1 k c)→∀ k c,look (l.foldl low1 s).1 k=some c→J (l.foldl low1 s).1 k c
 |[],s,_,_,h=>h
 |x :: l,s,le,hl,h=>by
  refine fold_just hJ (l:=l) (s:=low1 s x) (le.trans Le.low) (fun y hy=>hl y (List.mem_cons_of_mem _ hy)) fun k c e=>?_
  have lw:Le s.1 (low1 s x).1:=Le.low
  by_cases c1:met s.1 x=true
  ·have e1:low1 s x=s:=if_pos c1
   rw [e1] at e ⊢;exact h k c e
  ·have e1:low1 s x=(putT s.1 x.1 x.2,true):=if_neg c1
   rw [e1] at e lw ⊢
   have e:look (putT s.1 x.1 x.2) k=some c:=e
   rw [look_put] at e
   by_cases z:x.1=k
   ·rw [if_pos z] at e;cases e;rw [← z]
    exact hJ lw (hl x List.mem_cons_self s.1 le fun q=>c1 (met_iff.mpr q))
   ·rw [if_neg z] at e;exact hJ lw (h k c e)
end CM
namespace CM
open PySem L2 DL
noncomputable def facts6(m:Nat):List Nat:=(List.range 6).filter fun d=>m.testBit d
theorem mem6{m e:Nat}:e ∈ facts6 m ↔ e < 6∧m.testBit e=true:=by
 unfold facts6
 rw [List.mem_filter,List.mem_range]
theorem facts_six{m:Nat}(h:m < 64):factsN m=facts6 m:=by
 unfold factsN facts6
 have hb:Builtin.Int.intBits (m:Int) ≤ 6:=bits_lt (n:=6) h
 have e:∀ n,n ≤ 6→(∀ e,n ≤ e→m.testBit e=false)→(List.range 6).filter (fun d=>m.testBit d)=(List.range n).filter (fun d=>m.testBit d):=by
  intro n hn hi
  obtain ⟨j,hj⟩:∃ j,6=n + j:=⟨6 - n,by omega⟩
  rw [hj,List.range_add,List.filter_append]
  have:((List.range j).map (n + ·)).filter (fun d=>m.testBit d)=[]:=by
   rw [List.filter_eq_nil_iff]
   intro a ha
   obtain ⟨x,_,rfl⟩:=List.mem_map.mp ha
   rw [hi _ (Nat.le_add_right _ _)];exact Bool.false_ne_true
  rw [this,List.append_nil]
 exact (e _ hb fun e he=>bit_hi he).symm
theorem len6(m:Nat):(facts6 m).length ≤ 6:=by
 unfold facts6
 have:=List.length_filter_le (fun d=>m.testBit d) (List.range 6)
 rwa [List.length_range] at this
noncomputable def overT(E:Edge):List Nat:=match E.k with | .step t=>t | .call _ _ _ o=>o
noncomputable def shortP(I:Ct)(t:List Nat)(g x y:Nat)(b:Nat)(k:Kt)(c:Nat):Ct:=match look I [g,b,x,y] with
 |none=>[]
 |some c'=>(facts6 (t.getD y 0)).map fun e=>(k ++ [e],c + c')
noncomputable def callP(C:Chart)(I:Ct)(f a d c:Nat)(E:Edge):Ct:=match E.k with
 |.step _=>[]
 |.call g i b _=>match C[g]? with
  |none=>[]
  |some G=>(facts6 (i.getD d 0)).flatMap fun b'=>(List.range G.facts).flatMap fun y=>shortP I b g (G.places - 1) y b' [f,a,E.q] (c + E.cost)
noncomputable def overP(f a d c:Nat)(E:Edge):Ct:=(facts6 ((overT E).getD d 0)).map fun e=>([f,a,E.q] ++ [e],c + E.cost)
noncomputable def edgeP(C:Chart)(I:Ct)(f a p d c:Nat)(E:Edge):Ct:=if E.p=p then overP f a d c E ++ callP C I f a d c E else []
noncomputable def pairsN(C:Chart)(I:Ct):Kt→Ct
 |[f,a,p,d]=>match C[f]?,look I [f,a,p,d] with
  |some F,some c=>F.edges.flatMap (edgeP C I f a p d c)
  |_,_=>[]
 |_=>[]
noncomputable def along1(P I:Ct):Kt→Ct
 |[f,a,p,d]=>match look P [f,0,a],look I [f,a,p,d] with
  |some c,some c'=>[([f,p,d],c + c')]
  |_,_=>[]
 |_=>[]
noncomputable def inE(d p c:Nat)(E:Edge):Ct:=match E.k with
 |.step _=>[]
 |.call g i _ _=>if E.p=p then (facts6 (i.getD d 0)).map fun e=>([g,0] ++ [e],c + E.cost) else []
noncomputable def in1(C:Chart)(P:Ct):Kt→Ct
 |[f,p,d]=>match C[f]?,look P [f,p,d] with
  |some F,some c=>F.edges.flatMap (inE d p c)
  |_,_=>[]
 |_=>[]
noncomputable def outerN(C:Chart)(I P:Ct):Ct:=(keys I).flatMap (along1 P I) ++ (keys P).flatMap (in1 C P)
noncomputable def begP(st:Nat):Ct:=(facts6 st).map fun d=>([0,0,d],0)
noncomputable def begF(f:Nat)(F:Fn):Ct:=(List.range F.facts).map fun d=>([f,d,0,d],0)
noncomputable def begI(C:Chart):Ct:=C.zipIdx.flatMap fun x=>begF x.2 x.1
structure Shut(C:Chart)(st:Nat)(I P:Ct):Prop where
 bp:∀ x ∈ begP st,Met P x
 op:∀ x ∈ outerN C I P,Met P x
 bi:∀ x ∈ begI C,Met I x
 oi:∀ k ∈ keys I,∀ x ∈ pairsN C I k,Met I x
noncomputable def K4(C:Chart)(k:Kt):Prop:=∃ f a p d F,k=[f,a,p,d]∧C[f]?=some F∧a < F.facts∧p < F.places∧d < F.facts
noncomputable def K3(C:Chart)(k:Kt):Prop:=∃ f p d F,k=[f,p,d]∧C[f]?=some F∧p < F.places∧d < F.facts
inductive Prem(m:Ct):List Kt→Nat→Prop
 |nil:Prem m [] 0
 |cons {k:Kt} {ks:List Kt} {c s:Nat}:look m k=some c→Prem m ks s→Prem m (k :: ks) (c + s)
theorem Prem.one{m:Ct}{k:Kt}{c:Nat}(h:look m k=some c):Prem m [k] c:=.cons h .nil
theorem Prem.two{m:Ct}{k k':Kt}{c c':Nat}(h:look m k=some c)(h':look m k'=some c'):Prem m [k,k'] (c + c'):=.cons h (.one h')
theorem Prem.mono{m m':Ct}(l:Le m m'){ks:List Kt}{s:Nat}(h:Prem m ks s):∃ s',Prem m' ks s'∧s' ≤ s:=by
 induction h with
 |nil=>exact ⟨0,.nil,Nat.le_refl _⟩
 |cons e _ ih =>
  obtain ⟨s',h1,h2⟩:=ih
  obtain ⟨c',e1,e2⟩:=l _ _ e
  exact ⟨c' + s',.cons e1 h1,Nat.add_le_add e2 h2⟩
theorem Prem.mem{m:Ct}{ks:List Kt}{s:Nat}(h:Prem m ks s){k:Kt}(hk:k ∈ ks):∃ c,look m k=some c∧c ≤ s:=by
 induction h with
 |nil=>cases hk
 |cons e _ ih =>
  rcases List.mem_cons.mp hk with z | z
  ·rw [z];exact ⟨_,e,Nat.le_add_right _ _⟩
  ·obtain ⟨c,h1,h2⟩:=ih z
   exact ⟨c,h1,Nat.le_trans h2 (Nat.le_add_left _ _)⟩
theorem Prem.same{m m':Ct}{ks:List Kt}{s:Nat}(h:Prem m ks s)(e:∀ k ∈ ks,look m' k=look m k):Prem m' ks s:=by
 induction h with
 |nil=>exact .nil
 |cons e1 _ ih=>exact .cons ((e _ List.mem_cons_self).trans e1) (ih fun k hk=>e k (List.mem_cons_of_mem _ hk))
noncomputable abbrev Rule:=Kt→List Kt→Nat→Prop
noncomputable def Due(R:Rule)(m:Ct)(x:Kt×Nat):Prop:=∃ ks w s,R x.1 ks w∧Prem m ks s∧x.2=s + w
noncomputable def J(R:Rule)(B:Kt→Prop)(m:Ct)(k:Kt)(c:Nat):Prop:=B k∨∃ ks w s,R k ks w∧k ∉ ks∧Prem m ks s∧s + w ≤ c
theorem J.mono{R:Rule}{B:Kt→Prop}{m m':Ct}(l:Le m m'){k:Kt}{c:Nat}(h:J R B m k c):J R B m' k c:=by
 rcases h with h | ⟨ks,w,s,h1,h2,h3,h4⟩
 ·exact .inl h
 ·obtain ⟨s',h5,h6⟩:=h3.mono l
  exact .inr ⟨ks,w,s',h1,h2,h5,by omega⟩
theorem Due.just{R:Rule}{B:Kt→Prop}{m0 m:Ct}{x:Kt×Nat}(d:Due R m0 x)(l:Le m0 m)(n:¬ Met m x):J R B m x.1 x.2:=by
 obtain ⟨ks,w,s,h1,h2,h3⟩:=d
 obtain ⟨s',h5,h6⟩:=h2.mono l
 refine .inr ⟨ks,w,s',h1,fun z=>?_,h5,by omega⟩
 obtain ⟨c,e,h7⟩:=h5.mem z
 exact n ⟨c,e,by omega⟩
structure Up(m m':Ct):Prop where
 ex:∃ k c,look m k=some c∧(∀ k',k' ≠ k→look m' k'=look m k')∧∀ c',look m' k=some c'→c < c'
theorem Up.open{R:Rule}{B:Kt→Prop}{m m':Ct}(u:Up m m')(hJ:∀ k c,look m k=some c→J R B m k c)(hB:∀ k,B k→Met m' (k,0))(hR:∀ x,Due R m' x→Met m' x):False:=by
 obtain ⟨k,c,e,same,up⟩:=u.ex
 rcases hJ k c e with h | ⟨ks,w,s,h1,h2,h3,h4⟩
 ·obtain ⟨c',e',h'⟩:=hB k h
  have:=up c' e'
  have h':c' ≤ 0:=h'
  omega
 ·have p:Prem m' ks s:=h3.same fun k' hk'=>same k' fun z=>h2 (z ▸ hk')
  obtain ⟨c',e',h'⟩:=hR (k,s + w) ⟨ks,w,s,h1,p,rfl⟩
  have:=up c' e'
  have h':c' ≤ s + w:=h'
  omega
inductive RI(C:Chart):Rule
 |over {f a d e:Nat} {F:Fn} {E:Edge}:C[f]?=some F→E ∈ F.edges→e ∈ facts6 ((overT E).getD d 0)→RI C [f,a,E.q,e] [[f,a,E.p,d]] E.cost
 |short {f a d e g b y:Nat} {F G:Fn} {E:Edge} {i t o:List Nat}:C[f]?=some F→E ∈ F.edges→E.k = .call g i t o→C[g]?=some G→b ∈ facts6 (i.getD d 0)→y < G.facts→e ∈ facts6 (t.getD y 0)→RI C [f,a,E.q,e] [[f,a,E.p,d],[g,b,G.places - 1,y]] E.cost
inductive RP(C:Chart)(I:Ct):Rule
 |along {f a p d w:Nat}:look I [f,a,p,d]=some w→RP C I [f,p,d] [[f,0,a]] w
 |inn {f d e g:Nat} {F:Fn} {E:Edge} {i t o:List Nat}:C[f]?=some F→E ∈ F.edges→E.k = .call g i t o→e ∈ facts6 (i.getD d 0)→RP C I [g,0,e] [[f,E.p,d]] E.cost
theorem mem_short{I:Ct}{t:List Nat}{g x y b:Nat}{k:Kt}{c:Nat}{z:Kt×Nat}:z ∈ shortP I t g x y b k c ↔ ∃ c' e,look I [g,b,x,y]=some c'∧e ∈ facts6 (t.getD y 0)∧z=(k ++ [e],c + c'):=by
 unfold shortP
 cases look I [g,b,x,y] with
 |none=>exact ⟨fun h=>(nomatch h),fun ⟨_,_,h,_⟩=>nomatch h⟩
 |some c' =>
  constructor
  ·intro h
   obtain ⟨e,he,hz⟩:=List.mem_map.mp h
   exact ⟨c',e,rfl,he,hz.symm⟩
  ·rintro ⟨c2,e,h,he,hz⟩
   cases h
   exact List.mem_map.mpr ⟨e,he,hz.symm⟩
theorem mem_call{C:Chart}{I:Ct}{f a d c:Nat}{E:Edge}{z:Kt×Nat}:z ∈ callP C I f a d c E ↔ ∃ g i t o G b y c' e,E.k = .call g i t o∧C[g]?=some G∧b ∈ facts6 (i.getD d 0)∧y < G.facts∧look I [g,b,G.places - 1,y]=some c'∧e ∈ facts6 (t.getD y 0)∧z=([f,a,E.q,e],c + E.cost + c'):=by
 unfold callP
 cases hk:E.k with
 |step t=>exact ⟨fun h=>(nomatch h),fun ⟨_,_,_,_,_,_,_,_,_,h,_⟩=>nomatch h⟩
 |call g i t o =>
  dsimp only
  cases hG:C[g]? with
  |none =>
   refine ⟨fun h=>(nomatch h),fun ⟨_,_,_,_,G,_,_,_,_,h,h2,_⟩=>?_⟩
   cases h;rw [hG] at h2;cases h2
  |some G =>
   constructor
   ·intro h
    obtain ⟨b,hb,h⟩:=List.mem_flatMap.mp h
    obtain ⟨y,hy,h⟩:=List.mem_flatMap.mp h
    obtain ⟨c',e,h1,h2,h3⟩:=mem_short.mp h
    exact ⟨g,i,t,o,G,b,y,c',e,rfl,hG,hb,List.mem_range.mp hy,h1,h2,h3⟩
   ·rintro ⟨g',i',t',o',G',b,y,c',e,hk',hG',hb,hy,h1,h2,h3⟩
    cases hk';rw [hG] at hG';cases hG'
    exact List.mem_flatMap.mpr ⟨b,hb,List.mem_flatMap.mpr ⟨y,List.mem_range.mpr hy,mem_short.mpr ⟨c',e,h1,h2,h3⟩⟩⟩
theorem mem_over{f a d c:Nat}{E:Edge}{z:Kt×Nat}:z ∈ overP f a d c E ↔ ∃ e ∈ facts6 ((overT E).getD d 0),z=([f,a,E.q,e],c + E.cost):=by
 unfold overP
 rw [List.mem_map]
 exact ⟨fun ⟨e,h,q⟩=>⟨e,h,q.symm⟩,fun ⟨e,h,q⟩=>⟨e,h,q.symm⟩⟩
theorem pairs_of{C:Chart}{I:Ct}{f a p d c:Nat}{F:Fn}(hF:C[f]?=some F)(hc:look I [f,a,p,d]=some c):pairsN C I [f,a,p,d]=F.edges.flatMap (edgeP C I f a p d c):=by
 unfold pairsN;dsimp only;rw [hF,hc]
theorem mem_edge{C:Chart}{I:Ct}{f a p d c:Nat}{E:Edge}{z:Kt×Nat}:z ∈ edgeP C I f a p d c E ↔ E.p=p∧(z ∈ overP f a d c E∨z ∈ callP C I f a d c E):=by
 unfold edgeP
 by_cases h:E.p=p
 ·rw [if_pos h,List.mem_append];exact ⟨fun q=>⟨h,q⟩,fun q=>q.2⟩
 ·rw [if_neg h];exact ⟨fun q=>(nomatch q),fun q=>absurd q.1 h⟩
theorem due_pairs{C:Chart}{I:Ct}{k:Kt}{x:Kt×Nat}(hx:x ∈ pairsN C I k):Due (RI C) I x:=by
 unfold pairsN at hx
 split at hx
 ·rename_i f a p d
  split at hx
  ·rename_i F c hF hc
   obtain ⟨E,hE,hx⟩:=List.mem_flatMap.mp hx
   obtain ⟨hp,hy⟩:=mem_edge.mp hx
   clear hx
   subst hp
   rcases hy with hx | hx
   ·obtain ⟨e,he,rfl⟩:=mem_over.mp hx
    exact ⟨_,_,_,.over hF hE he,.one hc,rfl⟩
   ·obtain ⟨g,i,t,o,G,b,y,c',e,hk,hG,hb,hy,hc',he,rfl⟩:=mem_call.mp hx
    exact ⟨_,_,_,.short hF hE hk hG hb hy he,.two hc hc',Nat.add_right_comm ..⟩
  ·cases hx
 ·cases hx
theorem pairs_due{C:Chart}{I:Ct}{x:Kt×Nat}(hx:Due (RI C) I x):∃ k ∈ keys I,x ∈ pairsN C I k:=by
 obtain ⟨ks,w,s,r,p,e⟩:=hx
 obtain ⟨k,c⟩:=x
 have e:c=s + w:=e
 subst e
 cases r with
 |over hF hE he =>
  cases p with
  |cons hc p =>
   cases p
   refine ⟨_,look_key.mpr ⟨_,hc⟩,?_⟩
   rw [pairs_of hF hc]
   exact List.mem_flatMap.mpr ⟨_,hE,mem_edge.mpr ⟨rfl,.inl (mem_over.mpr ⟨_,he,rfl⟩)⟩⟩
 |short hF hE hk hG hb hy he =>
  cases p with
  |cons hc p =>
   cases p with
   |cons hc' p =>
    cases p
    refine ⟨_,look_key.mpr ⟨_,hc⟩,?_⟩
    rw [pairs_of hF hc]
    exact List.mem_flatMap.mpr ⟨_,hE,mem_edge.mpr ⟨rfl,.inr (mem_call.mpr ⟨_,_,_,_,_,_,_,_,_,hk,hG,hb,hy,hc',he,by rw [Nat.add_zero];exact congrArg _ (Nat.add_right_comm ..)⟩)⟩⟩
theorem mem_in{d p c:Nat}{E:Edge}{z:Kt×Nat}:z ∈ inE d p c E ↔ ∃ g i t o e,E.k = .call g i t o∧E.p=p∧e ∈ facts6 (i.getD d 0)∧z=([g,0,e],c + E.cost):=by
 unfold inE
 cases hk:E.k with
 |step t=>exact ⟨fun h=>(nomatch h),fun ⟨_,_,_,_,_,h,_⟩=>nomatch h⟩
 |call g i t o =>
  dsimp only
  by_cases h:E.p=p
  ·rw [if_pos h,List.mem_map]
   constructor
   ·rintro ⟨e,he,q⟩;exact ⟨g,i,t,o,e,rfl,h,he,q.symm⟩
   ·rintro ⟨g',i',t',o',e,hk',_,he,q⟩
    cases hk';exact ⟨e,he,q.symm⟩
  ·rw [if_neg h]
   exact ⟨fun q=>(nomatch q),fun ⟨_,_,_,_,_,_,h',_⟩=>absurd h' h⟩
theorem due_outer{C:Chart}{I P:Ct}{x:Kt×Nat}(hx:x ∈ outerN C I P):Due (RP C I) P x:=by
 rcases List.mem_append.mp hx with hx | hx
 ·obtain ⟨k,hk,hx⟩:=List.mem_flatMap.mp hx
  unfold along1 at hx
  split at hx
  ·split at hx
   ·rename_i c c' hc hc'
    rw [List.mem_singleton.mp hx]
    exact ⟨_,_,_,.along hc',.one hc,rfl⟩
   ·cases hx
  ·cases hx
 ·obtain ⟨k,hk,hx⟩:=List.mem_flatMap.mp hx
  unfold in1 at hx
  split at hx
  ·split at hx
   ·rename_i F c hF hc
    obtain ⟨E,hE,hx⟩:=List.mem_flatMap.mp hx
    obtain ⟨g,i,t,o,e,hk',hp,he,rfl⟩:=mem_in.mp hx
    subst hp
    exact ⟨_,_,_,.inn hF hE hk' he,.one hc,rfl⟩
   ·cases hx
  ·cases hx
theorem outer_due{C:Chart}{I P:Ct}{x:Kt×Nat}(hx:Due (RP C I) P x):x ∈ outerN C I P:=by
 obtain ⟨ks,w,s,r,p,e⟩:=hx
 obtain ⟨k,c⟩:=x
 have e:c=s + w:=e
 subst e
 cases r with
 |along hw =>
  cases p with
  |cons hc p =>
   cases p
   refine List.mem_append_left _ (List.mem_flatMap.mpr ⟨_,look_key.mpr ⟨_,hw⟩,?_⟩)
   unfold along1
   dsimp only
   rw [hc,hw];exact List.mem_singleton.mpr rfl
 |inn hF hE hk he =>
  cases p with
  |cons hc p =>
   cases p
   refine List.mem_append_right _ (List.mem_flatMap.mpr ⟨_,look_key.mpr ⟨_,hc⟩,?_⟩)
   unfold in1
   dsimp only
   rw [hF,hc]
   exact List.mem_flatMap.mpr ⟨_,hE,mem_in.mpr ⟨_,_,_,_,_,hk,rfl,he,rfl⟩⟩
theorem bitLt{t:List Nat}{n m d e:Nat}(ht:tOk t n m)(hd:d < n)(hb:(t.getD d 0).testBit e=true):e < m:=by
 have hx:=(ht.get hd).2
 rcases Nat.lt_or_ge e m with z | z
 ·exact z
 ·rw [Nat.testBit_lt_two_pow (Nat.lt_of_lt_of_le hx (Nat.pow_le_pow_right (by decide) z))] at hb
  cases hb
theorem bit6{t:List Nat}{n m d e:Nat}(ht:tOk t n m)(hd:d < n)(he:e ∈ facts6 (t.getD d 0)):e < m:=bitLt ht hd (mem6.mp he).2
theorem over_ok{C:Chart}{F:Fn}{E:Edge}(ok:eOk C F E):tOk (overT E) F.facts F.facts:=by
 obtain ⟨_,_,_,_,h⟩:=ok
 obtain ⟨p,q,c,k⟩:=E
 cases k with
 |step t=>exact h
 |call g i b o=>obtain ⟨G,_,_,_,h⟩:=h;exact h
theorem RI.ok{C:Chart}(wf:WF C){k:Kt}{ks:List Kt}{w:Nat}(r:RI C k ks w)(hk:∀ k ∈ ks,K4 C k):K4 C k:=by
 cases r with
 |@over f a d e F E hF hE he =>
  obtain ⟨f',a',p',d',F',e1,hF',h1,h2,h3⟩:=hk _ List.mem_cons_self
  cases e1
  rw [hF] at hF';cases hF'
  have ok:=(wf.fn f F hF).2.2.2.2.2 E hE
  exact ⟨f,a,E.q,e,F,rfl,hF,h1,ok.2.1,bit6 (over_ok ok) h3 he⟩
 |@short f a d e g b y F G E i t o hF hE hk' hG hb hy he =>
  obtain ⟨f',a',p',d',F',e1,hF',h1,h2,h3⟩:=hk _ List.mem_cons_self
  cases e1
  rw [hF] at hF';cases hF'
  have ok:=(wf.fn f F hF).2.2.2.2.2 E hE
  refine ⟨f,a,E.q,e,F,rfl,hF,h1,ok.2.1,?_⟩
  obtain ⟨_,_,_,_,h⟩:=ok
  rw [hk'] at h
  obtain ⟨G',hG',_,h,_⟩:=h
  rw [hG] at hG';cases hG'
  exact bit6 h hy he
theorem RP.ok{C:Chart}(wf:WF C){I:Ct}(hI:∀ k ∈ keys I,K4 C k){k:Kt}{ks:List Kt}{w:Nat}(r:RP C I k ks w)(hk:∀ k ∈ ks,K3 C k):K3 C k:=by
 cases r with
 |@along f a p d w hw =>
  obtain ⟨f',a',p',d',F',e1,hF',h1,h2,h3⟩:=hI _ (look_key.mpr ⟨_,hw⟩)
  cases e1
  exact ⟨f,p,d,F',rfl,hF',h2,h3⟩
 |@inn f d e g F E i t o hF hE hk' he =>
  obtain ⟨f',p',d',F',e1,hF',h2,h3⟩:=hk _ List.mem_cons_self
  cases e1
  rw [hF] at hF';cases hF'
  have ok:=(wf.fn f F hF).2.2.2.2.2 E hE
  obtain ⟨_,_,_,_,h⟩:=ok
  rw [hk'] at h
  obtain ⟨G',hG',h,_⟩:=h
  exact ⟨g,0,e,G',rfl,hG',(wf.fn g G' hG').1,bit6 h h3 he⟩
theorem Prem.keys{m:Ct}{ks:List Kt}{s:Nat}(h:Prem m ks s):∀ k ∈ ks,k ∈ keys m:=fun _ hk=>let ⟨c,e,_⟩:=h.mem hk;look_key.mpr ⟨c,e⟩
theorem pairs_ok{C:Chart}(wf:WF C){I:Ct}(hI:∀ k ∈ keys I,K4 C k){k:Kt}:∀ x ∈ pairsN C I k,K4 C x.1:=fun x hx=>by
 obtain ⟨ks,w,s,r,p,_⟩:=due_pairs hx
 exact r.ok wf fun k hk=>hI k (p.keys k hk)
theorem outer_ok{C:Chart}(wf:WF C){I P:Ct}(hI:∀ k ∈ keys I,K4 C k)(hP:∀ k ∈ keys P,K3 C k):∀ x ∈ outerN C I P,K3 C x.1:=fun x hx=>by
 obtain ⟨ks,w,s,r,p,_⟩:=due_outer hx
 exact r.ok wf hI fun k hk=>hP k (p.keys k hk)
theorem mem_begI{C:Chart}{x:Kt×Nat}:x ∈ begI C ↔ ∃ f F d,C[f]?=some F∧d < F.facts∧x=([f,d,0,d],0):=by
 unfold begI begF
 rw [List.mem_flatMap]
 constructor
 ·rintro ⟨⟨F,f⟩,hF,h⟩
  obtain ⟨d,hd,rfl⟩:=List.mem_map.mp h
  exact ⟨f,F,d,List.mem_zipIdx_iff_getElem?.mp hF,List.mem_range.mp hd,rfl⟩
 ·rintro ⟨f,F,d,hF,hd,rfl⟩
  exact ⟨(F,f),List.mem_zipIdx_iff_getElem?.mpr hF,List.mem_map.mpr ⟨d,List.mem_range.mpr hd,rfl⟩⟩
theorem mem_begP{st:Nat}{x:Kt×Nat}:x ∈ begP st ↔ ∃ d,d < 6∧st.testBit d=true∧x=([0,0,d],0):=by
 unfold begP
 rw [List.mem_map]
 exact ⟨fun ⟨d,h,e⟩=>⟨d,(mem6.mp h).1,(mem6.mp h).2,e.symm⟩,fun ⟨d,h1,h2,e⟩=>⟨d,mem6.mpr ⟨h1,h2⟩,e.symm⟩⟩
noncomputable def Nought(V:Kt→Prop)(m:Ct):Prop:=TOk V m∧∀ k,V k→look m k=some 0
theorem Nought.met{V:Kt→Prop}{m:Ct}(h:Nought V m){x:Kt×Nat}(hx:V x.1):Met m x:=⟨0,h.2 _ hx,Nat.zero_le _⟩
theorem begI_ok{C:Chart}(wf:WF C):∀ x ∈ begI C,K4 C x.1:=fun x hx=>by
 obtain ⟨f,F,d,hF,hd,rfl⟩:=mem_begI.mp hx
 exact ⟨f,d,0,d,F,rfl,hF,hd,(wf.fn f F hF).1,hd⟩
theorem begP_ok{C:Chart}(wf:WF C){st:Nat}{F:Fn}(hF:C[0]?=some F)(hs:st < 2 ^ F.facts):∀ x ∈ begP st,K3 C x.1:=fun x hx=>by
 obtain ⟨d,_,hd,rfl⟩:=mem_begP.mp hx
 refine ⟨0,0,d,F,rfl,hF,(wf.fn 0 F hF).1,?_⟩
 rcases Nat.lt_or_ge d F.facts with z | z
 ·exact z
 ·rw [Nat.testBit_lt_two_pow (Nat.lt_of_lt_of_le hs (Nat.pow_le_pow_right (by decide) z))] at hd;cases hd
theorem Nought.shut{C:Chart}(wf:WF C){st:Nat}{F:Fn}(hF:C[0]?=some F)(hs:st < 2 ^ F.facts){I P:Ct}(hI:Nought (K4 C) I)(hP:Nought (K3 C) P):Shut C st I P :=
 ⟨fun x hx=>hP.met (begP_ok wf hF hs x hx),fun x hx=>hP.met (outer_ok wf hI.1.all hP.1.all x hx),fun x hx=>hI.met (begI_ok wf x hx),fun k _ x hx=>hI.met (pairs_ok wf hI.1.all x hx)⟩
structure Least(C:Chart)(st:Nat)(I P:Ct):Prop where
 shut:Shut C st I P
 ti:TOk (K4 C) I
 tp:TOk (K3 C) P
 ji:∀ k c,look I k=some c→J (RI C) (fun k=>(k,0) ∈ begI C) I k c
 jp:∀ k c,look P k=some c→J (RP C I) (fun k=>(k,0) ∈ begP st) P k c
theorem Least.upI{C:Chart}{st:Nat}{I P I':Ct}(l:Least C st I P)(u:Up I I'):¬ Shut C st I' P:=fun s =>
 u.open l.ji (fun k hk=>s.bi _ hk) fun x hx=>let ⟨k,hk,hx⟩:=pairs_due hx;s.oi k hk x hx
theorem Least.upP{C:Chart}{st:Nat}{I P P':Ct}(l:Least C st I P)(u:Up P P'):¬ Shut C st I P':=fun s =>
 u.open l.jp (fun k hk=>s.bp _ hk) fun x hx=>s.op x (outer_due hx)
theorem Up.put{m:Ct}{k:Kt}{c v:Nat}(h:look m k=some c)(hv:c < v):Up m (putT m k v) :=
 ⟨k,c,h,fun k' n=>by rw [look_put,if_neg fun z=>n z.symm],fun c' e=>by rw [look_put,if_pos rfl] at e;cases e;exact hv⟩
theorem Up.cut{m:Ct}{k:Kt}{c:Nat}(h:look m k=some c):Up m (cutT m k) :=
 ⟨k,c,h,fun k' n=>by rw [look_cut,if_neg fun z=>n z.symm],fun c' e=>by rw [look_cut,if_pos rfl] at e;cases e⟩
end CM
namespace CM
open PySem L2 DL
noncomputable def sumT(m:Ct):Nat:=(m.map (·.2)).sum
noncomputable def Dn(m m':Ct):Prop:=m.length < m'.length∨(m.length=m'.length∧sumT m' < sumT m)
theorem Dn.trans{a b c:Ct}(h:Dn a b)(h':Dn b c):Dn a c:=by
 rcases h with h | ⟨h1,h2⟩
 ·rcases h' with h' | ⟨h3,h4⟩
  ·exact .inl (Nat.lt_trans h h')
  ·exact .inl (h3 ▸ h)
 ·rcases h' with h' | ⟨h3,h4⟩
  ·exact .inl (h1 ▸ h')
  ·exact .inr ⟨h1.trans h3,Nat.lt_trans h4 h2⟩
theorem sum_rep{k:Kt}{v:Nat}:∀ {m:Ct} {c:Nat},(keys m).Nodup→look m k=some c→sumT (m.map fun x=>if x.1=k then (x.1,v) else x) + c=sumT m + v
 |[],c,_,h=>by cases h
 |x :: m,c,nd,h=>by
  have nd:(x.1 :: keys m).Nodup:=nd
  rw [List.nodup_cons] at nd
  rw [look_cons] at h
  unfold sumT
  rw [List.map_cons,List.map_cons,List.sum_cons,List.map_cons,List.sum_cons]
  by_cases e:x.1=k
  ·rw [if_pos e] at h
   cases h
   rw [if_pos e]
   have:(m.map fun x=>if x.1=k then (x.1,v) else x)=m:=by
    refine (List.map_congr_left fun y hy=>?_).trans (List.map_id m)
    rw [if_neg fun z=>nd.1 (by rw [e,← z];exact List.mem_map.mpr ⟨y,hy,rfl⟩)];rfl
   rw [this]
   dsimp only
   omega
  ·rw [if_neg e] at h ⊢
   have ih:=sum_rep (v:=v) nd.2 h
   unfold sumT at ih
   omega
theorem Dn.put{m:Ct}{x:Kt×Nat}(nd:(keys m).Nodup)(h:¬ met m x=true):Dn m (putT m x.1 x.2):=by
 unfold putT
 by_cases c:(m.any fun y=>decide (y.1=x.1))=true
 ·rw [if_pos c]
  obtain ⟨w,hw⟩:=look_key.mp (any_key.mp c)
  have s:=sum_rep (v:=x.2) nd hw
  have l:=not_met h hw
  exact .inr ⟨by rw [List.length_map],by omega⟩
 ·rw [if_neg c]
  exact .inl (by rw [List.length_append];exact Nat.lt_succ_self _)
theorem fold_dn{V:Kt→Prop}:∀ {l:Ct} {s:Ct×Bool},TOk V s.1→(∀ x ∈ l,V x.1)→l.foldl low1 s=s∨((l.foldl low1 s).2=true∧Dn s.1 (l.foldl low1 s).1)
 |[],s,_,_=>.inl rfl
 |x :: l,s,h,hl=>by
  have hl':∀ y ∈ l,V y.1:=fun y hy=>hl y (List.mem_cons_of_mem _ hy)
  show l.foldl low1 (low1 s x)=s∨((l.foldl low1 (low1 s x)).2=true∧Dn s.1 (l.foldl low1 (low1 s x)).1)
  by_cases c:met s.1 x=true
  ·have e:low1 s x=s:=if_pos c
   rw [e];exact fold_dn h hl'
  ·have e:low1 s x=(putT s.1 x.1 x.2,true):=if_neg c
   have d:=Dn.put h.nd c
   rw [e]
   refine .inr ⟨fold_true rfl,?_⟩
   rcases fold_dn (s:=(putT s.1 x.1 x.2,true)) (h.put (hl x List.mem_cons_self)) hl' with z | z
   ·rw [z];exact d
   ·exact d.trans z.2
theorem lower_dn{V:Kt→Prop}{m l:Ct}(h:TOk V m)(hl:∀ x ∈ l,V x.1):lower m l=(m,false)∨((lower m l).2=true∧Dn m (lower m l).1):=fold_dn (s:=(m,false)) h hl
theorem lower_ok{V:Kt→Prop}{m l:Ct}(h:TOk V m)(hl:∀ x ∈ l,V x.1):TOk V (lower m l).1:=TOk.fold (s:=(m,false)) h hl
theorem lower_le(m l:Ct):Le m (lower m l).1:=Le.fold (s:=(m,false))
theorem lower_just{R:Rule}{B:Kt→Prop}{m l:Ct}(hl:∀ x ∈ l,Due R m x)(h:∀ k c,look m k=some c→J R B m k c):∀ k c,look (lower m l).1 k=some c→J R B (lower m l).1 k c :=
 fold_just (J:=J R B) (m0:=m) (s:=(m,false)) (fun l _ _ j=>j.mono l) (Le.refl m) (fun x hx _ l n=>(hl x hx).just l n) h
inductive Ends(step:Ct→Ct×Bool):Nat→Ct→Prop
 |stop {m:Ct}:(step m).2=false→Ends step 0 m
 |more {m:Ct} {n:Nat}:(step m).2=true→Ends step n (step m).1→Ends step (n + 1) m
theorem ends_all{Ok:Ct→Prop}{step:Ct→Ct×Bool}{N:Nat}(hN:∀ m,Ok m→m.length ≤ N)(hs:∀ m,Ok m→Ok (step m).1∧((step m).2=true→Dn m (step m).1)):∀ m,Ok m→∃ n,Ends step n m:=by
 have go:∀ a b m,Ok m→N - m.length=a→sumT m=b→∃ n,Ends step n m:=by
  intro a
  induction a using Nat.strongRecOn with
  |ind a iha =>
   intro b
   induction b using Nat.strongRecOn with
   |ind b ihb =>
    intro m hm ha hb
    obtain ⟨h1,h2⟩:=hs m hm
    cases q:(step m).2 with
    |false=>exact ⟨0,.stop q⟩
    |true =>
     have l1:=hN m hm
     have l2:=hN _ h1
     have d:=h2 q
     unfold Dn at d
     have:∃ n,Ends step n (step m).1:=by
      rcases d with d | d
      ·exact iha _ (ha ▸ Nat.sub_lt_sub_left (Nat.lt_of_lt_of_le d l2) d) _ _ h1 rfl rfl
      ·exact ihb _ (hb ▸ d.2) _ h1 (by rw [← d.1];exact ha) rfl
     obtain ⟨n,hn⟩:=this
     exact ⟨n + 1,.more q hn⟩
 exact fun m hm=>go _ _ m hm rfl rfl
noncomputable def pass1(C:Chart)(s:Ct×Bool)(k:Kt):Ct×Bool:=((lower s.1 (pairsN C s.1 k)).1,if (lower s.1 (pairsN C s.1 k)).2=true then true else s.2)
noncomputable def passI(C:Chart)(m:Ct):Ct×Bool:=(keys m).foldl (pass1 C) (m,false)
structure Ins(C:Chart)(m:Ct):Prop where
 ok:TOk (K4 C) m
 beg:∀ x ∈ begI C,Met m x
 just:∀ k c,look m k=some c→J (RI C) (fun k=>(k,0) ∈ begI C) m k c
theorem Ins.low{C:Chart}(wf:WF C){m:Ct}(h:Ins C m)(k:Kt):Ins C (lower m (pairsN C m k)).1 :=
 ⟨lower_ok h.ok fun x hx=>pairs_ok wf h.ok.all x hx,fun x hx=>(lower_le _ _).met (h.beg x hx),lower_just (fun x hx=>due_pairs hx) h.just⟩
theorem pass_all{C:Chart}(wf:WF C):∀ {ks:List Kt} {s:Ct×Bool},Ins C s.1→Ins C (ks.foldl (pass1 C) s).1∧(s.2=true→(ks.foldl (pass1 C) s).2=true)∧(((ks.foldl (pass1 C) s)=s∧∀ k ∈ ks,∀ x ∈ pairsN C s.1 k,Met s.1 x)∨((ks.foldl (pass1 C) s).2=true∧Dn s.1 (ks.foldl (pass1 C) s).1))
 |[],s,h=>⟨h,id,.inl ⟨rfl,fun _ z=>nomatch z⟩⟩
 |k :: ks,s,h=>by
  show Ins C (ks.foldl (pass1 C) (pass1 C s k)).1∧(s.2=true→(ks.foldl (pass1 C) (pass1 C s k)).2=true)∧(((ks.foldl (pass1 C) (pass1 C s k))=s∧∀ k' ∈ k :: ks,∀ x ∈ pairsN C s.1 k',Met s.1 x)∨((ks.foldl (pass1 C) (pass1 C s k)).2=true∧Dn s.1 (ks.foldl (pass1 C) (pass1 C s k)).1))
  have h1:Ins C (pass1 C s k).1:=h.low wf k
  obtain ⟨a1,a2,a3⟩:=pass_all wf (ks:=ks) h1
  rcases lower_dn h.ok (fun x hx=>pairs_ok wf h.ok.all x hx) (l:=pairsN C s.1 k) with z | ⟨z1,z2⟩
  ·have e:pass1 C s k=s:=by unfold pass1;rw [z];rfl
   rw [e] at a1 a2 a3 ⊢
   refine ⟨a1,a2,?_⟩
   rcases a3 with ⟨b1,b2⟩ | b
   ·refine .inl ⟨b1,fun k' hk'=>?_⟩
    rcases List.mem_cons.mp hk' with y | y
    ·rw [y];exact (lower_false (by rw [z])).2
    ·exact b2 k' y
   ·exact .inr b
  ·have e:(pass1 C s k).2=true:=if_pos z1
   have d:Dn s.1 (pass1 C s k).1:=z2
   refine ⟨a1,fun _=>a2 e,.inr ⟨a2 e,?_⟩⟩
   rcases a3 with ⟨b1,b2⟩ | b
   ·rw [b1];exact d
   ·exact d.trans b.2
theorem pass_false{C:Chart}(wf:WF C){m:Ct}(h:Ins C m)(e:(passI C m).2=false):(passI C m).1=m∧∀ k ∈ keys m,∀ x ∈ pairsN C m k,Met m x:=by
 obtain ⟨_,_,h⟩:=pass_all wf (ks:=keys m) (s:=(m,false)) h
 rcases h with ⟨h1,h2⟩ | h
 ·exact ⟨by unfold passI;rw [h1],h2⟩
 ·unfold passI at e;rw [h.1] at e;cases e
theorem pass_dn{C:Chart}(wf:WF C){m:Ct}(h:Ins C m)(e:(passI C m).2=true):Dn m (passI C m).1:=by
 obtain ⟨_,_,h⟩:=pass_all wf (ks:=keys m) (s:=(m,false)) h
 rcases h with ⟨h1,h2⟩ | h
 ·unfold passI at e;rw [h1] at e;cases e
 ·exact h.2
theorem pass_ins{C:Chart}(wf:WF C){m:Ct}(h:Ins C m):Ins C (passI C m).1:=(pass_all wf (ks:=keys m) (s:=(m,false)) h).1
noncomputable def stepP(C:Chart)(I m:Ct):Ct×Bool:=lower m (outerN C I m)
structure Outs(C:Chart)(st:Nat)(I m:Ct):Prop where
 ok:TOk (K3 C) m
 beg:∀ x ∈ begP st,Met m x
 just:∀ k c,look m k=some c→J (RP C I) (fun k=>(k,0) ∈ begP st) m k c
theorem Outs.step{C:Chart}(wf:WF C){st:Nat}{I m:Ct}(hI:TOk (K4 C) I)(h:Outs C st I m):Outs C st I (stepP C I m).1 :=
 ⟨lower_ok h.ok fun x hx=>outer_ok wf hI.all h.ok.all x hx,fun x hx=>(lower_le _ _).met (h.beg x hx),lower_just (fun x hx=>due_outer hx) h.just⟩
theorem step_dn{C:Chart}(wf:WF C){st:Nat}{I m:Ct}(hI:TOk (K4 C) I)(h:Outs C st I m)(e:(stepP C I m).2=true):Dn m (stepP C I m).1:=by
 rcases lower_dn h.ok (fun x hx=>outer_ok wf hI.all h.ok.all x hx) (l:=outerN C I m) with z | z
 ·unfold stepP at e;rw [z] at e;cases e
 ·exact z.2
theorem least_of{C:Chart}{st:Nat}{I P:Ct}(hI:Ins C I)(cI:∀ k ∈ keys I,∀ x ∈ pairsN C I k,Met I x)(hP:Outs C st I P)(e:(stepP C I P).2=false):Least C st I P :=
 ⟨⟨hP.beg,(lower_false e).2,hI.beg,cI⟩,hI.ok,hP.ok,hI.just,hP.just⟩
structure Small(C:Chart):Prop where
 three:C.length ≤ 3
 places:∀ (f:Nat) (F:Fn),C[f]?=some F→F.places ≤ 3
noncomputable def all4:List Kt:=(List.range 3).flatMap fun f=>(List.range 6).flatMap fun a=>(List.range 3).flatMap fun p=>(List.range 6).map fun d=>[f,a,p,d]
noncomputable def all3:List Kt:=(List.range 3).flatMap fun f=>(List.range 3).flatMap fun p=>(List.range 6).map fun d=>[f,p,d]
theorem K4.in{C:Chart}(wf:WF C)(sm:Small C){k:Kt}(h:K4 C k):k ∈ all4:=by
 obtain ⟨f,a,p,d,F,rfl,hF,h1,h2,h3⟩:=h
 have f3:f < 3:=Nat.lt_of_lt_of_le (List.getElem?_eq_some_iff.mp hF).1 sm.three
 have p3:=sm.places f F hF
 have d6:=(wf.fn f F hF).2.2.2.1
 exact List.mem_flatMap.mpr ⟨f,List.mem_range.mpr f3,List.mem_flatMap.mpr ⟨a,List.mem_range.mpr (Nat.lt_of_lt_of_le h1 d6),List.mem_flatMap.mpr ⟨p,List.mem_range.mpr (Nat.lt_of_lt_of_le h2 p3),List.mem_map.mpr ⟨d,List.mem_range.mpr (Nat.lt_of_lt_of_le h3 d6),rfl⟩⟩⟩⟩
theorem K3.in{C:Chart}(wf:WF C)(sm:Small C){k:Kt}(h:K3 C k):k ∈ all3:=by
 obtain ⟨f,p,d,F,rfl,hF,h2,h3⟩:=h
 have f3:f < 3:=Nat.lt_of_lt_of_le (List.getElem?_eq_some_iff.mp hF).1 sm.three
 have p3:=sm.places f F hF
 have d6:=(wf.fn f F hF).2.2.2.1
 exact List.mem_flatMap.mpr ⟨f,List.mem_range.mpr f3,List.mem_flatMap.mpr ⟨p,List.mem_range.mpr (Nat.lt_of_lt_of_le h2 p3),List.mem_map.mpr ⟨d,List.mem_range.mpr (Nat.lt_of_lt_of_le h3 d6),rfl⟩⟩⟩
theorem nd_len{α:Type} [DecidableEq α]:∀ {l L:List α},l.Nodup→(∀ x ∈ l,x ∈ L)→l.length ≤ L.length
 |[],_,_,_=>Nat.zero_le _
 |x :: l,L,nd,h=>by
  rw [List.nodup_cons] at nd
  have:=nd_len (L:=L.erase x) nd.2 fun y hy=>(List.mem_erase_of_ne fun z=>nd.1 (by rw [← z];exact hy)).mpr (h y (List.mem_cons_of_mem _ hy))
  have hl:=List.length_erase_of_mem (h x List.mem_cons_self)
  have hp:=List.length_pos_of_mem (h x List.mem_cons_self)
  rw [List.length_cons];omega
theorem TOk.len{V:Kt→Prop}{m:Ct}{L:List Kt}(h:TOk V m)(hL:∀ k,V k→k ∈ L):m.length ≤ L.length:=by
 have:=nd_len h.nd fun k hk=>hL k (h.all k hk)
 unfold keys at this
 rwa [List.length_map] at this
theorem all4_len:all4.length=324:=by decide +kernel
theorem all3_len:all3.length=54:=by decide +kernel
theorem len4{C:Chart}(wf:WF C)(sm:Small C){m:Ct}(h:TOk (K4 C) m):m.length ≤ 324:=all4_len ▸ h.len fun _ hk=>hk.in wf sm
theorem len3{C:Chart}(wf:WF C)(sm:Small C){m:Ct}(h:TOk (K3 C) m):m.length ≤ 54:=all3_len ▸ h.len fun _ hk=>hk.in wf sm
theorem ends_I{C:Chart}(wf:WF C)(sm:Small C){m:Ct}(h:Ins C m):∃ n,Ends (passI C) n m :=
 ends_all (Ok:=Ins C) (fun m hm=>len4 wf sm hm.ok) (fun m hm=>⟨pass_ins wf hm,pass_dn wf hm⟩) m h
theorem ends_P{C:Chart}(wf:WF C)(sm:Small C){st:Nat}{I m:Ct}(hI:TOk (K4 C) I)(h:Outs C st I m):∃ n,Ends (stepP C I) n m :=
 ends_all (Ok:=Outs C st I) (fun m hm=>len3 wf sm hm.ok) (fun m hm=>⟨hm.step wf hI,step_dn wf hI hm⟩) m h
theorem hash4:(all4.map fun k=>hashK (kN k)).Nodup:=by decide +kernel
theorem hash3:(all3.map fun k=>hashK (kN k)).Nodup:=by decide +kernel
end CM
namespace CM
open PySem L2 DL
theorem two_cases:∀ {q:Nat},q < 2→q=0∨q=1
 |0,_=>.inl rfl
 |1,_=>.inr rfl
theorem ltN{a b:Nat}(h:(a:Int) < (b:Int)):a < b:=Int.ofNat_lt.mp h
theorem posN{a:Nat}(h:0 < a):(0:Int) < (a:Int):=Int.ofNat_lt.mpr h
theorem zeroN{a:Nat}(h:¬ (0:Int) < (a:Int)):a=0:=Nat.eq_zero_of_not_pos fun z=>h (posN z)
theorem rng10{n:Nat}(h:n ≤ 10):-(2 ^ 62) ≤ (n:Int)∧(n:Int) < 2 ^ 62:=by omega
theorem rng6{n:Nat}(h:n ≤ 6):-(2 ^ 62) ≤ (n:Int)∧(n:Int) < 2 ^ 62:=rng10 (Nat.le_trans h (by decide))
theorem len_rng{n:Nat}(h:n ≤ 6):(rangeD 0 (n:Int).toNat).length ≤ 16777216:=by rw [rangeD_length,Int.toNat_natCast];exact Nat.le_trans h (by decide)
theorem one3(r:Int):∃ a:Nat,1 + r % 3=(a:Int)∧1 ≤ a∧a ≤ 3:=by
 obtain ⟨a,ha⟩:=Int.eq_ofNat_of_zero_le (Int.emod_nonneg r (show (3:Int) ≠ 0 by decide))
 have hl:a < 3:=ltN (by rw [← ha];exact Int.emod_lt_of_pos r (by decide))
 exact ⟨1 + a,by rw [ha];exact (Int.natCast_add 1 a).symm,Nat.le_add_right ..,Nat.add_le_add_left (Nat.le_of_lt_succ hl) 1⟩
theorem mod2(r:Int):∃ a:Nat,r % 2=(a:Int)∧a < 2:=by
 obtain ⟨a,ha⟩:=Int.eq_ofNat_of_zero_le (Int.emod_nonneg r (show (2:Int) ≠ 0 by decide))
 exact ⟨a,ha,ltN (by rw [← ha];exact Int.emod_lt_of_pos r (by decide))⟩
theorem up1{a b:Nat}(h:b < 2):((a:Int) + (b:Int)=((a + b:Nat):Int))∧a ≤ a + b∧a + b ≤ a + 1:=⟨(Int.natCast_add ..).symm,Nat.le_add_right ..,Nat.add_le_add_left (Nat.le_of_lt_succ h) _⟩
theorem two_0{h:Hh}{a b:O}:(h ++ [a,b])[h.length]?=some a:=by rw [List.getElem?_append_right (Nat.le_refl _),Nat.sub_self];rfl
theorem two_1{h:Hh}{a b:O}:(h ++ [a,b])[h.length + 1]?=some b:=by rw [List.getElem?_append_right (Nat.le_succ _),show h.length + 1 - h.length=1 by omega];rfl
theorem two_s0{h:Hh}{a b u:O}:(h ++ [a,b]).set h.length u=h ++ [u,b]:=by rw [List.set_append_right _ _ (Nat.le_refl _),Nat.sub_self];rfl
theorem two_s1{h:Hh}{a b u:O}:(h ++ [a,b]).set (h.length + 1) u=h ++ [a,u]:=by rw [List.set_append_right _ _ (Nat.le_succ _),show h.length + 1 - h.length=1 by omega];rfl
theorem eqS_ii(i j:Int):eqS (.int i) (.int j)=some (i == j):=rfl
theorem eqS_ss{a b:Str}(h:PyData.strOk a=true)(h':PyData.strOk b=true):eqS (.str a) (.str b)=some (a == b):=by
 show (if (PyData.strOk a && PyData.strOk b)=true then some (a == b) else none)=_
 rw [h,h'];rfl
theorem eqS_bb(a b:Bool):eqS (.bl a) (.bl b)=some (a == b):=rfl
theorem eqS_ni(i:Int):eqS .non (.int i)=some false:=rfl
theorem plus_ii(i j:Int)(h:Hh)(Q:DK):pPlus (.int i) (.int j) h Q=Q (.int (i + j)) h:=rfl
theorem plus_tt(a b:List D)(h:Hh)(Q:DK):pPlus (.tup a) (.tup b) h Q=(a ≠ []∧a.length + b.length ≤ 16777216∧Q (.tup (a ++ b)) h):=rfl
theorem min_ii(i j:Int)(h:Hh)(Q:DK):pMin [.int i,.int j] h Q=Q (.int (if j < i then j else i)) h:=rfl
theorem max_ii(i j:Int)(h:Hh)(Q:DK):pMax [.int i,.int j] h Q=Q (.int (if j > i then j else i)) h:=rfl
theorem neg_i(i:Int)(h:Hh)(Q:DK):pNeg (.int i) h Q=Q (.int (-i)) h:=rfl
theorem items_tb(m:Ct):(tbD m).map itD=m.map pkD:=by
 unfold tbD
 rw [List.map_map]
 refine List.map_congr_left fun x _=>?_
 show D.tup [keyD (kN x.1),nD x.2]=D.tup [tkD x.1,nD x.2]
 rw [keyD_kN]
theorem keys_tb(m:Ct):((tbD m).map fun kv=>keyD kv.1)=m.map fun x=>tkD x.1:=by
 unfold tbD
 rw [List.map_map]
 exact List.map_congr_left fun x _=>keyD_kN x.1
theorem src_items{δ:Sl}{h:Hh}{j i:Nat}{m:Ct}(hδ:δ[j]?=some (some (.ref i)))(e:h[i]?=some (.dT none (tbD m)))(Q:Src→Hh→Prop)(k:∀ o,Q ⟨m.map pkD,[(i,.dT (some o) (tbD m))]⟩ (h.set i (.dT (some o) (tbD m)))):dIItems (dVar j) δ h Q:=by
 unfold dIItems dVar
 rw [hδ]
 dsimp only
 rw [e]
 dsimp only
 rw [items_tb]
 exact k
theorem src_keys{δ:Sl}{h:Hh}{j i:Nat}{m:Ct}(hδ:δ[j]?=some (some (.ref i)))(e:h[i]?=some (.dT none (tbD m)))(Q:Src→Hh→Prop)(k:∀ o,Q ⟨m.map fun x=>tkD x.1,[(i,.dT (some o) (tbD m))]⟩ (h.set i (.dT (some o) (tbD m)))):dIDict (dVar j) δ h Q:=by
 unfold dIDict dVar
 rw [hδ]
 dsimp only
 rw [e]
 dsimp only
 rw [keys_tb]
 exact k
noncomputable def fz(i:Nat)(o:Obj)(m:Ct)(h:Hh):Hh:=h.set i (.dT (some o) (tbD m))
theorem fz_get{i:Nat}{o:Obj}{m:Ct}{h:Hh}{x:O}(e:h[i]?=some x):(fz i o m h)[i]?=some (.dT (some o) (tbD m)):=List.getElem?_set_self (List.getElem?_eq_some_iff.mp e).1
theorem fz_ne{i k:Nat}{o:Obj}{m:Ct}{h:Hh}(n:i ≠ k):(fz i o m h)[k]?=h[k]?:=List.getElem?_set_ne n
theorem fz_set{i k:Nat}{o:Obj}{m:Ct}{h:Hh}{x:O}(n:i ≠ k):(fz i o m h).set k x=fz i o m (h.set k x):=List.set_comm _ _ n
theorem fz_thaw{i:Nat}{o:Obj}{m:Ct}{h h0:Hh}{kvs0:List (List Key×D)}{Q:Hh→Prop}(e0:h0[i]?=some (.dT none kvs0))(e:h[i]?=some (.dT none (tbD m)))(q:Q h):thaw h0 (fz i o m h) Q :=
 ⟨i,o,tbD m,kvs0,e0,fz_get e,by unfold fz;rw [List.set_set,set_id e];exact q⟩
theorem forI_by{s:DI}{t:DG}{b:DS}{E:DEnds}{δ:Sl}{h:Hh}{i:Nat}{m:Ct}(g:Kt×Nat→D)
  (hs:∀ Q:Src→Hh→Prop,(∀ o,Q ⟨m.map g,[(i,.dT (some o) (tbD m))]⟩ (h.set i (.dT (some o) (tbD m))))→s δ h Q)
  (P:Ct→Sl→Hh→Prop) (h0:P [] δ h) (ok:∀ p δ h',P p δ h'→h'[i]?=some (.dT none (tbD m)))
  (step:∀ (p:Ct) (x:Kt×Nat) (r:Ct) (δ':Sl) (h':Hh) (o:Obj) (N X1:Sl→Hh→Prop) (R:DK) (X2:DX),m=p ++ x :: r→P p δ' h'→(∀ δ'' h'',P (p ++ [x]) δ'' h''→N δ'' (fz i o m h''))→(∀ d h'',h''[i]?=some (.dT none (tbD m))→E.rt d h''→R d (fz i o m h'')) →
   t (g x) δ' (fz i o m h') fun δ2 h2=>b ⟨N,R,X1,N,X2⟩ δ2 h2)
  (done:∀ δ' h',P m δ' h'→E.nx δ' h'):dForI s t b E δ h:=by
 have e0:=ok _ _ _ h0
 refine hs _ fun o=>?_
 refine forL_map (g:=g) (fun p δ' h'=>∃ h'',h'=fz i o m h''∧P p δ' h'') ⟨h,rfl,h0⟩ ?_ ?_ ?_
 ·rintro p δ' h' ⟨h'',rfl,q⟩ z hz
  rw [List.mem_singleton.mp hz]
  exact fz_get (ok _ _ _ q)
 ·rintro p x r δ' h' N e ⟨h'',rfl,q⟩ hN
  exact step p x r δ' h'' o N _ _ _ e q (fun δ3 h3 q3=>hN _ _ ⟨h3,rfl,q3⟩) fun d h3 e3 q3=>fz_thaw e0 e3 q3
 ·rintro δ' h' ⟨h'',rfl,q⟩
  exact fz_thaw e0 (ok _ _ _ q) (done _ _ q)
theorem bits64{t:List Nat}{n m d:Nat}(ht:tOk t n m)(hm:m ≤ 6):t.getD d 0 < 64:=by
 by_cases hd:d < n
 ·exact pow64 (ht.get hd).2 hm
 ·rw [List.getD_eq_getElem?_getD,List.getElem?_eq_none (by rw [ht.1];exact Nat.le_of_not_lt hd)];decide
theorem all_snoc{α:Type}{p:α→Prop}{q:List α}{x:α}(h:∀ y ∈ q,p y)(hx:p x):∀ y ∈ q ++ [x],p y:=fun y hy=>by
 rcases List.mem_append.mp hy with z | z
 ·exact h y z
 ·rw [List.mem_singleton.mp z];exact hx
theorem met_put{m:Ct}{k:Kt}:Met m (k,0) ↔ look m k=some 0:=by
 constructor
 ·rintro ⟨c,e,h⟩
  have h:c ≤ 0:=h
  rw [e,Nat.le_zero.mp h]
 ·intro h;exact ⟨0,h,Nat.le_refl _⟩
theorem while_e{t:DT}{b:DS}{E:DEnds}(P:Nat→Sl→Hh→Prop){m:Nat}{δ:Sl}{h:Hh}(h0:P m δ h)(step:∀ m δ h (N:Sl→Hh→Prop),P m δ h→(∀ m' δ' h',m' < m→P m' δ' h'→N δ' h')→t δ h fun c h1=>if c=true then b { E with nx:=N,ct:=N,bk:=E.nx } δ h1 else E.nx δ h1):dWhile t b E δ h:=by
 refine ⟨m + 1,?_⟩
 have key:∀ n m δ h,m < n→P m δ h→whN t b E n δ h:=by
  intro n
  induction n with
  |zero=>intro m δ h hm;exact absurd hm (Nat.not_lt_zero _)
  |succ n ih =>
   intro m δ h hm hp
   exact step m δ h _ hp fun m' δ' h' hm' hp'=>ih m' δ' h' (Nat.lt_of_lt_of_le hm' (Nat.le_of_lt_succ hm)) hp'
 exact key _ m δ h (Nat.lt_succ_self _) h0
theorem while_intro{t:DT}{b:DS}{E:DEnds}{δ:Sl}{h:Hh}(k:∀ b',b'=b→dWhile t b' E δ h):dWhile t b E δ h:=k _ rfl
theorem forI_intro{s:DI}{t:DG}{b:DS}{E:DEnds}{δ:Sl}{h:Hh}(k:∀ t' b',t'=t→b'=b→dForI s t' b' E δ h):dForI s t b E δ h:=k _ _ rfl rfl
theorem pass_le(C:Chart):∀ {ks:List Kt} {s:Ct×Bool},Le s.1 (ks.foldl (pass1 C) s).1
 |[],s=>Le.refl _
 |k :: ks,s=>Le.trans (lower_le s.1 (pairsN C s.1 k)) (pass_le C (ks:=ks) (s:=pass1 C s k))
noncomputable def Z(m:Ct)(k:Kt):Prop:=look m k=some 0
theorem Z.put{m:Ct}{k:Kt}(h:Z m k)(k':Kt):Z (putT m k' 0) k:=by
 unfold Z
 rw [look_put]
 split
 ·rfl
 ·exact h
theorem Z.new(m:Ct)(k:Kt):Z (putT m k 0) k:=by unfold Z;rw [look_put,if_pos rfl]
theorem fz_app{h:Hh}{i:Nat}{o x:O}{ob:Obj}{m:Ct}(e:h[i]?=some x):(fz i ob m (h ++ [o]))[h.length]?=some o:=by
 rw [fz_ne (Nat.ne_of_lt (List.getElem?_eq_some_iff.mp e).1),get_new]
theorem fz_put{h:Hh}{i:Nat}{o u x:O}{ob:Obj}{m:Ct}(e:h[i]?=some x):(fz i ob m (h ++ [o])).set h.length u=fz i ob m (h ++ [u]):=by
 rw [fz_set (Nat.ne_of_lt (List.getElem?_eq_some_iff.mp e).1),set_new]
theorem app_get{h g:Hh}{i:Nat}{o:O}(e:h[i]?=some o):(h ++ g)[i]?=some o:=Pre.app _ _ _ _ e
theorem fz_app2{h:Hh}{i:Nat}{o o2 x:O}{ob:Obj}{m:Ct}(e:h[i]?=some x):(fz i ob m (h ++ [o,o2]))[h.length + 1]?=some o2:=by
 rw [fz_ne (Nat.ne_of_lt (Nat.lt_succ_of_lt (List.getElem?_eq_some_iff.mp e).1)),two_1]
theorem fz_put2{h:Hh}{i:Nat}{o o2 u x:O}{ob:Obj}{m:Ct}(e:h[i]?=some x):(fz i ob m (h ++ [o,o2])).set (h.length + 1) u=fz i ob m (h ++ [o,u]):=by
 rw [fz_set (Nat.ne_of_lt (Nat.lt_succ_of_lt (List.getElem?_eq_some_iff.mp e).1)),two_s1]
theorem for_intro{s:DI}{t:DG}{b:DS}{E:DEnds}{δ:Sl}{h:Hh}(k:∀ t' b',t'=t→b'=b→dFor s t' b' E δ h):dFor s t b E δ h:=k _ _ rfl rfl
theorem name_in{i:Nat}{d:D}{δ:Sl}{h:Hh}{Q:Sl→Hh→Prop}(k:Q (δ.set i (some d)) h):dName i d δ h Q:=k
theorem unp2{a b:Nat}{x y:D}{δ:Sl}{h:Hh}{K:Sl→Hh→Prop}(k:K ((δ.set a (some x)).set b (some y)) h):dUnp 2 (dGCons (dName a) (dGCons (dName b) dGNil)) (.tup [x,y]) δ h K:=⟨rfl,k⟩
theorem flat_len{α β:Type}{f:α→List β}{n:Nat}:∀ {l:List α},(∀ x,(f x).length ≤ n)→(l.flatMap f).length ≤ l.length * n
 |[],_=>Nat.zero_le _
 |x :: l,h=>by
  have:=flat_len (l:=l) h
  have:=h x
  rw [List.flatMap_cons,List.length_append,List.length_cons,Nat.succ_mul];omega
theorem len_short(I:Ct)(t:List Nat)(g x y b:Nat)(k:Kt)(c:Nat):(shortP I t g x y b k c).length ≤ 6:=by
 unfold shortP
 split
 ·exact Nat.zero_le _
 ·rw [List.length_map];exact len6 _
theorem len_rows(C:Chart)(wf:WF C){g:Nat}{G:Fn}(hG:C[g]?=some G)(I:Ct)(t:List Nat)(x b:Nat)(k:Kt)(c:Nat):((List.range G.facts).flatMap fun y=>shortP I t g x y b k c).length ≤ 36:=by
 have:=flat_len (l:=List.range G.facts) (fun y=>len_short I t g x y b k c)
 have f6:=(wf.fn g G hG).2.2.2.1
 rw [List.length_range] at this;omega
theorem len_edge{C:Chart}(wf:WF C){I:Ct}{f a p d c:Nat}{E:Edge}:(edgeP C I f a p d c E).length ≤ 222:=by
 unfold edgeP
 split
 ·rw [List.length_append]
  have h1:(overP f a d c E).length ≤ 6:=by unfold overP;rw [List.length_map];exact len6 _
  have h2:(callP C I f a d c E).length ≤ 216:=by
   unfold callP
   split
   ·exact Nat.zero_le _
   ·rename_i g i b o hk
    split
    ·exact Nat.zero_le _
    ·rename_i G hG
     have:=flat_len (l:=facts6 (i.getD d 0)) (fun b'=>len_rows C wf hG I b (G.places - 1) b' [f,a,E.q] (c + E.cost))
     have:=len6 (i.getD d 0)
     omega
  omega
 ·exact Nat.zero_le _
theorem len_edges{C:Chart}(wf:WF C){I:Ct}{f a p d c:Nat}(l:List Edge):(l.flatMap (edgeP C I f a p d c)).length ≤ l.length * 222:=flat_len fun _=>len_edge wf
theorem nD_add(a b:Nat):nD (a + b) = .int ((a:Int) + (b:Int)):=congrArg D.int (Int.natCast_add a b)
theorem eD_last(h:Hh)(E:Edge):ixD h (eD E) (.int (-1))=some (tD (overT E)):=by
 obtain ⟨p,q,c,k⟩:=E
 cases k <;> rfl
theorem nrD_pkD(x:Kt×Nat):nrD (pkD x)=true:=by
 show (nrDs (x.1.map nD) && (true && true))=true
 rw [nrDs_map fun _=>rfl];rfl
end CM
namespace K35
open PySem L2 DL CM
def vvA : String := "dAsg dName dVar dC dOp dUn dTst dTr dAnd dOr dNot dAndV dOrV dNotV dIf dIfS dRet dDrop dNext dCB dCal dCons dNil dTup dV dTk dListOf dBits dIsinst dPart dNoPart dSl dGNil dGCons dUnp dSubL dAppend dExtend dFor dISeq dIRange dIEnum dComp dNoIf dCatN pI pI0 pB0 pIs pIx pEq pLtI pLen pTuple pInt pMulI dGet dDGet dDGet1 dDGet2 pInD dDNew dDPut dIDict dForI dIItems dListT dSortT dDictT dDPop pLenT pEqDD dPar reduceIte"
def vvB : String := "setD compSl isN_non isN_bl isN_int isN_str isN_tup isN_lst isN_ref List.map_cons List.map_nil List.cons_append List.nil_append List.length_cons List.length_nil List.replicate List.getElem?_cons_zero List.getElem?_cons_succ List.set_cons_zero List.set_cons_succ Option.getD_some Option.getD_none List.getElem?_nil Bool.false_eq_true Bool.not_true Bool.not_false if_true if_false ite_true ite_false eq_self_iff_true decide_true decide_false Nat.reduceSub Nat.reduceAdd Nat.sub_zero Nat.sub_self Nat.zero_add Option.map_some Option.map_none Option.bind_some Option.bind_none lsOf_lst seqOf_lst seqSrc_lst lenD_lst ixD_lst trD_lst lsOf_scr seqOf_scr seqSrc_scr lenD_scr ixD_scr trD_scr lsP_lst lsP_tup lsP_int lsP_str seqOf_tup seqSrc_tup lenD_tup ixD_tup trD_tup trD_non trD_bl trD_int kindD_bl isK_bool_bool ixN_10 ixN_0 at2_0 at2_1 at3_0 at3_1 at3_2 at4_0 at4_1 at4_2 at4_3 at5_0 at5_1 at5_2 at5_3 at5_4 at8_0 at8_1 at8_2 at8_3 at8_4 at8_5 at8_6 at8_7 sk_step sq_step_step sq_step_call sq_step_in sq_step_over sk_call sq_call_step sq_call_call sq_call_in sq_call_over sk_in sq_in_step sq_in_call sq_in_in sq_in_over sk_over sq_over_step sq_over_call sq_over_in sq_over_over Bool.and_self Bool.and_true eqS_ii eqS_ss eqS_bb eqS_ni plus_ii plus_tt min_ii max_ii neg_i"
local macro_rules | `(tactic| simp only [VV]) => do
  let as := ((vvA.splitOn " ")).toArray.map fun s => Lean.mkIdent s.toName
  let bs := ((vvB.splitOn " ")).toArray.map fun s => Lean.mkIdent s.toName
  `(tactic| simp only [$[↓$as:ident],*, $[$bs:ident],*])
local macro_rules | `(tactic| simp only [$xs,*, VV]) => do
  let as := ((vvA.splitOn " ")).toArray.map fun s => Lean.mkIdent s.toName
  let bs := ((vvB.splitOn " ")).toArray.map fun s => Lean.mkIdent s.toName
  `(tactic| simp only [$xs,*, $[↓$as:ident],*, $[$bs:ident],*])
noncomputable def top(i:Nat):Stmt:=PySem.Challenge.pw_callmatch_k35_shut.main.body.getD i (.Pass ⟨0,0,0,0⟩)
noncomputable abbrev s_q22:Stmt:=top 1
noncomputable abbrev s_q21:Stmt:=top 4
noncomputable abbrev s_q29:Stmt:=top 5
noncomputable abbrev s_q20:Stmt:=top 6
noncomputable abbrev s_q30:Stmt:=top 7
noncomputable abbrev s_q26:Stmt:=top 16
noncomputable abbrev s_q0:Stmt:=top 18
noncomputable abbrev s_q10:Stmt:=top 19
noncomputable abbrev s_q3:Stmt:=top 25
noncomputable abbrev s_q6:Stmt:=top 26
noncomputable abbrev s_q9:Stmt:=top 29
noncomputable abbrev s_q11:Stmt:=top 31
noncomputable abbrev s_q19:Stmt:=top 10
noncomputable abbrev s_q17:Stmt:=top 13
noncomputable abbrev s_q18:Stmt:=top 15
noncomputable abbrev s_q4:Stmt:=top 20
noncomputable abbrev s_q15:Stmt:=top 21
noncomputable abbrev s_q14:Stmt:=top 24
noncomputable abbrev s_q13:Stmt:=top 27
noncomputable abbrev s_q12:Stmt:=top 28
noncomputable abbrev s_q1:Stmt:=top 33
noncomputable abbrev s_q28:Stmt:=top 12
noncomputable abbrev s_q23:Stmt:=top 14
noncomputable abbrev s_q5:Stmt:=top 22
noncomputable abbrev s_q8:Stmt:=top 30
noncomputable abbrev s_q7:Stmt:=top 32
noncomputable abbrev s_q24:Stmt:=top 11
noncomputable abbrev s_q2:Stmt:=top 23
noncomputable abbrev s_q16:Stmt:=top 34
noncomputable abbrev s_q25:Stmt:=top 9
noncomputable abbrev s_q27:Stmt:=top 35
theorem sc_q22:FnScope ["mask"] ["mask"] (defScope s_q22):=⟨rfl,rfl,rfl,by decide +kernel,rfl,by decide +kernel,by decide +kernel⟩
theorem sc_q21:FnScope ["chart","f"] ["chart","f"] (defScope s_q21):=⟨rfl,rfl,rfl,by decide +kernel,rfl,by decide +kernel,by decide +kernel⟩
theorem sc_q29:FnScope ["chart","start"] ["chart","start"] (defScope s_q29):=⟨rfl,rfl,rfl,by decide +kernel,rfl,by decide +kernel,by decide +kernel⟩
theorem sc_q20:FnScope ["chart","f","p"] ["chart","f","p"] (defScope s_q20):=⟨rfl,rfl,rfl,by decide +kernel,rfl,by decide +kernel,by decide +kernel⟩
theorem sc_q30:FnScope ["edge"] ["edge"] (defScope s_q30):=⟨rfl,rfl,rfl,by decide +kernel,rfl,by decide +kernel,by decide +kernel⟩
theorem sc_q26:FnScope ["costs","key","cost"] ["costs","key","cost"] (defScope s_q26):=⟨rfl,rfl,rfl,by decide +kernel,rfl,by decide +kernel,by decide +kernel⟩
theorem sc_q0:FnScope ["_law_script","_law_k","_law_number"] ["_law_script","_law_k"] (defScope s_q0):=⟨rfl,rfl,rfl,by decide +kernel,rfl,by decide +kernel,by decide +kernel⟩
theorem sc_q10:FnScope ["_law_state","_law_many"] ["_law_state","_law_many"] (defScope s_q10):=⟨rfl,rfl,rfl,by decide +kernel,rfl,by decide +kernel,by decide +kernel⟩
theorem sc_q3:FnScope ["_law_chart_here"] ["_law_chart_here"] (defScope s_q3):=⟨rfl,rfl,rfl,by decide +kernel,rfl,by decide +kernel,by decide +kernel⟩
theorem sc_q6:FnScope ["_law_mask"] ["_law_mask"] (defScope s_q6):=⟨rfl,rfl,rfl,by decide +kernel,rfl,by decide +kernel,by decide +kernel⟩
theorem sc_q9:FnScope ["_law_known","_law_pairs_here","_law_lower","_law_key","_law_cost_here"] ["_law_known","_law_pairs_here"] (defScope s_q9):=⟨rfl,rfl,rfl,by decide +kernel,rfl,by decide +kernel,by decide +kernel⟩
theorem sc_q11:FnScope ["_law_chart_here","_law_inside","_law_places","_law_f","_law_p","_law_d","_law_a"] ["_law_chart_here"] (defScope s_q11):=⟨rfl,rfl,rfl,by decide +kernel,rfl,by decide +kernel,by decide +kernel⟩
theorem sc_q19:FnScope ["chart","start","inside","places","f","function","d"] ["chart","start","inside","places"] (defScope s_q19):=⟨rfl,rfl,rfl,by decide +kernel,rfl,by decide +kernel,by decide +kernel⟩
theorem sc_q17:FnScope ["inside","places","key","more","f","entry"] ["inside","places"] (defScope s_q17):=⟨rfl,rfl,rfl,by decide +kernel,rfl,by decide +kernel,by decide +kernel⟩
theorem sc_q18:FnScope ["costs","behind","mask","cost"] ["costs","behind","mask","cost"] (defScope s_q18):=⟨rfl,rfl,rfl,by decide +kernel,rfl,by decide +kernel,by decide +kernel⟩
theorem sc_q4:FnScope ["_law_state"] ["_law_state"] (defScope s_q4):=⟨rfl,rfl,rfl,by decide +kernel,rfl,by decide +kernel,by decide +kernel⟩
theorem sc_q15:FnScope ["_law_state","_law_many","_law_facts_here","_law_masks","_law_d","_law_mask"] ["_law_state","_law_many","_law_facts_here"] (defScope s_q15):=⟨rfl,rfl,rfl,by decide +kernel,rfl,by decide +kernel,by decide +kernel⟩
theorem sc_q14:FnScope ["_law_script","_law_chart_here"] ["_law_script","_law_chart_here"] (defScope s_q14):=⟨rfl,rfl,rfl,by decide +kernel,rfl,by decide +kernel,by decide +kernel⟩
theorem sc_q13:FnScope ["_law_chart_here","_law_inside","_law_key","_law_f","_law_a","_law_p","_law_d","_law_found","_law_edge_here","_law_e","_law_g","_law_b","_law_y","_law_more","_law_cost_here"] ["_law_chart_here","_law_inside","_law_key"] (defScope s_q13):=⟨rfl,rfl,rfl,by decide +kernel,rfl,by decide +kernel,by decide +kernel⟩
theorem sc_q12:FnScope ["_law_chart_here","_law_inside","_law_places","_law_found","_law_key","_law_f","_law_a","_law_p","_law_d","_law_edge_here"] ["_law_chart_here","_law_inside","_law_places"] (defScope s_q12):=⟨rfl,rfl,rfl,by decide +kernel,rfl,by decide +kernel,by decide +kernel⟩
theorem sc_q1:FnScope ["_law_known","_law_all_keys","_law_state","_law_way","_law_some","_law_key","_law_much"] ["_law_known","_law_all_keys","_law_state","_law_way"] (defScope s_q1):=⟨rfl,rfl,rfl,by decide +kernel,rfl,by decide +kernel,by decide +kernel⟩
theorem sc_q28:FnScope ["chart","inside","behind","edge","d","spent","g","b","y","end"] ["chart","inside","behind","edge","d","spent"] (defScope s_q28):=⟨rfl,rfl,rfl,by decide +kernel,rfl,by decide +kernel,by decide +kernel⟩
theorem sc_q23:FnScope ["chart","places","key","cost","n","edge"] ["chart","places"] (defScope s_q23):=⟨rfl,rfl,rfl,by decide +kernel,rfl,by decide +kernel,by decide +kernel⟩
theorem sc_q5:FnScope ["_law_cell_here","_law_heads","_law_f","_law_most","_law_state","_law_places","_law_facts_here","_law_p","_law_q","_law_cost_here","_law_g","_law_others","_law_into","_law_home","_law_over"] ["_law_cell_here","_law_heads","_law_f","_law_most"] (defScope s_q5):=⟨rfl,rfl,rfl,by decide +kernel,rfl,by decide +kernel,by decide +kernel⟩
theorem sc_q8:FnScope ["_law_chart_here","_law_start_here","_law_inside","_law_f","_law_d","_law_going","_law_key","_law_places"] ["_law_chart_here","_law_start_here"] (defScope s_q8):=⟨rfl,rfl,rfl,by decide +kernel,rfl,by decide +kernel,by decide +kernel⟩
theorem sc_q7:FnScope ["_law_chart_here","_law_start_here","_law_inside","_law_places","_law_due","_law_key","_law_cost_here","_law_f"] ["_law_chart_here","_law_start_here","_law_inside","_law_places"] (defScope s_q7):=⟨rfl,rfl,rfl,by decide +kernel,rfl,by decide +kernel,by decide +kernel⟩
theorem sc_q24:FnScope ["chart","inside","key","cost","n","edge","behind","spent"] ["chart","inside"] (defScope s_q24):=⟨rfl,rfl,rfl,by decide +kernel,rfl,by decide +kernel,by decide +kernel⟩
theorem sc_q2:FnScope ["_law_script","_law_at","_law_many","_law_wide","_law_deep","_law_heads","_law_f","_law_cell_here","_law_edges","_law_k"] ["_law_script","_law_at","_law_many","_law_wide","_law_deep"] (defScope s_q2):=⟨rfl,rfl,rfl,by decide +kernel,rfl,by decide +kernel,by decide +kernel⟩
theorem sc_q16:FnScope ["_law_script","_law_heads","_law_edges","_law_k","_law_cell_here","_law_f"] ["_law_script"] (defScope s_q16):=⟨rfl,rfl,rfl,by decide +kernel,rfl,by decide +kernel,by decide +kernel⟩
theorem sc_q25:FnScope ["chart","start","inside","places"] ["chart","start","inside","places"] (defScope s_q25):=⟨rfl,rfl,rfl,by decide +kernel,rfl,by decide +kernel,by decide +kernel⟩
theorem sc_q27:FnScope ["_law_script","_law_chart_here","_law_wide","_law_start_here","_law_inside","_law_places","_law_more","_law_others","_law_state","_law_keys","_law_least_here","_law_ways","_law_turn","_law_at","_law_handed","_law_kept","_law_due","_law_found"] ["_law_script"] (defScope s_q27):=⟨rfl,rfl,rfl,by decide +kernel,rfl,by decide +kernel,by decide +kernel⟩
noncomputable def k_MOVE_TABLES:List (Key×Int):=[(.inr "step",4),(.inr "in",5),(.inr "over",7)]
structure Txt(P:Program)(w:World)(K:PySem.W.Frag)(mg:Str→Option Value):Prop where
 b_all:mg "all" = none
 b_bool:mg "bool" = none
 b_dict:mg "dict" = none
 b_enumerate:mg "enumerate" = none
 b_int:mg "int" = none
 b_isinstance:mg "isinstance" = none
 b_len:mg "len" = none
 b_list:mg "list" = none
 b_max:mg "max" = none
 b_min:mg "min" = none
 b_range:mg "range" = none
 b_sorted:mg "sorted" = none
 b_sum:mg "sum" = none
 b_tuple:mg "tuple" = none
 c_MOVE_TABLES:∃ a,mg "MOVE_TABLES" = some (.ref a)∧KDict P w K a (k_MOVE_TABLES.map fun p=>(p.1,V.int p.2))
section
variable {P:Program} {w:World} {K:PySem.W.Frag} {mg:Str→Option Value} {base:Heap}
noncomputable def b_q22:DS:=(dRet (dV (dComp [none,some 0] (dIRange (dCons (dBits (dVar 0)) dNil)) (dName 0) (dTr (dOp pBand (dOp pShr (dVar 1) (dVar 0)) (dC (.int 1)))) (dVar 0))))
noncomputable def S_q22:DSp:=fun ds h Q=>∃ m:Nat,ds=[nD m]∧m < 2 ^ 60∧Q (.lst ((factsN m).map nD)) h
theorem imp_q22:∀ ds h Q,S_q22 ds h Q→runD 1 b_q22 ds h Q:=by
 rintro ds h Q ⟨m,rfl,hm,q⟩
 have hb:=bits_lt hm
 simp only [↓b_q22,↓runD,↓dSeq,VV]
 refine ⟨⟨by first | decide | omega,by first | decide | omega⟩,by rw [rangeD_length];omega,?_⟩
 rw [rangeD_map]
 refine comp1 (fun d=>m.testBit d) nD Src.ok_nil none (fun y hy K k=>?_) (fun y hy _ K k=>?_) ?_
 ·simp only [↓b_q22,↓runD,↓dSeq,VV]
  refine ⟨by first | decide | omega,?_⟩
  rw [show ((0:Int) + (y:Nat)).toNat=y by first | decide | omega,bitT]
  exact k
 ·simp only [↓b_q22,↓runD,↓dSeq,VV]
  rw [Int.zero_add];exact k
 ·rw [Int.toNat_natCast]
  exact q
theorem ok_q22{f:Addr}{fd:FuncData}(F:Fun K "facts_in" "facts_in" s_q22 f fd)(T:Txt P w K mg):FnOk P w K mg base CX0 1 f fd ["mask"] (spD K 1 S_q22) :=
 fn_ok (k:=0) (b:=b_q22) F sc_q22 (fun cdv A outer s H E hr=>by
  refine ss_one ?_
  refine s_ret ?_
  refine se_v ?_
  exact sn_comp rfl (N':= ["d","mask"]) (js:=[none,some 0]) ⟨rfl,by decide +kernel,rfl,rfl,rfl⟩ (si_range1 rfl T.b_range (sa_cons (se_bits (sv 0)) sa_nil)) (fun s0 H0 fp=>⟨(sg_name (i:=0) (show (["d","mask"]:List Str).Nodup by decide +kernel) rfl (Or.inl rfl)),(sf_one (st_truth (se_op ok_band (se_op ok_shr (sv 1) (sv 0)) se_int))),(sv 0)⟩)) imp_q22
noncomputable def b_q21:DS:=(dRet (dOp pSub (dOp pIx (dOp pIx (dVar 0) (dVar 1)) (dC (.int 0))) (dC (.int 1))))
noncomputable def S_q21:DSp:=fun ds h Q=>∃ (c:D) (C:Chart) (f:Nat) (F:Fn),ds=[c,nD f]∧ChD h c C∧C[f]?=some F∧Q (.int ((F.places:Int) - 1)) h
theorem imp_q21:∀ ds h Q,S_q21 ds h Q→runD 2 b_q21 ds h Q:=by
 rintro ds h Q ⟨c,C,f,F,rfl,hc,hf,q⟩
 obtain ⟨x,e1,e2⟩:=hc.fn hf
 simp only [e1,↓b_q21,↓runD,↓dSeq,VV]
 exact q
theorem ok_q21{f:Addr}{fd:FuncData}(F:Fun K "exit_of" "exit_of" s_q21 f fd)(T:Txt P w K mg):FnOk P w K mg base CX0 1 f fd ["chart","f"] (spD K 2 S_q21) :=
 fn_ok (k:=0) (b:=b_q21) F sc_q21 (fun cdv A outer s H E hr=>by
  refine ss_one ?_
  refine s_ret ?_
  exact se_op ok_sub (se_ix ok_ix (se_ix ok_ix (sv 0) (sv 1) (fun _ _=>rfl)) se_int (fun _ _=>rfl)) se_int) imp_q21
noncomputable def b_q29:DS:=(dRet (dV (dComp [none,some 1] (dIRange (dCons (dOp pIx (dOp pIx (dVar 0) (dC (.int 0))) (dC (.int 1))) dNil)) (dName 0) (dTr (dOp pBand (dOp pShr (dVar 1) (dVar 0)) (dC (.int 1)))) (dVar 0))))
noncomputable def S_q29:DSp:=fun ds h Q=>∃ (c:D) (C:Chart) (st:Nat) (F:Fn),ds=[c,nD st]∧ChD h c C∧C[0]?=some F∧F.facts ≤ 6∧Q (.lst (((List.range F.facts).filter fun d=>st.testBit d).map nD)) h
theorem imp_q29:∀ ds h Q,S_q29 ds h Q→runD 2 b_q29 ds h Q:=by
 rintro ds h Q ⟨c,C,st,F,rfl,hc,hf,h6,q⟩
 obtain ⟨x,e1,e2⟩:=hc.fn hf
 have e1:ixD h c (.int 0)=some (.tup [nD F.places,nD F.facts,x]):=e1
 simp only [e1,↓b_q29,↓runD,↓dSeq,VV]
 refine ⟨⟨by first | decide | omega,by first | decide | omega⟩,by rw [rangeD_length];omega,?_⟩
 rw [rangeD_map]
 refine comp1 (fun d=>st.testBit d) nD Src.ok_nil none (fun y hy K k=>?_) (fun y hy _ K k=>?_) ?_
 ·simp only [↓b_q29,↓runD,↓dSeq,VV]
  refine ⟨by first | decide | omega,?_⟩
  rw [show ((0:Int) + (y:Nat)).toNat=y by first | decide | omega,bitT]
  exact k
 ·simp only [↓b_q29,↓runD,↓dSeq,VV]
  rw [Int.zero_add];exact k
 ·rw [Int.toNat_natCast]
  exact q
theorem ok_q29{f:Addr}{fd:FuncData}(F:Fun K "start_facts" "start_facts" s_q29 f fd)(T:Txt P w K mg):FnOk P w K mg base CX0 1 f fd ["chart","start"] (spD K 2 S_q29) :=
 fn_ok (k:=0) (b:=b_q29) F sc_q29 (fun cdv A outer s H E hr=>by
  refine ss_one ?_
  refine s_ret ?_
  refine se_v ?_
  exact sn_comp rfl (N':= ["d","start"]) (js:=[none,some 1]) ⟨rfl,by decide +kernel,rfl,rfl,rfl⟩ (si_range1 rfl T.b_range (sa_cons (se_ix ok_ix (se_ix ok_ix (sv 0) se_int (fun _ _=>rfl)) se_int (fun _ _=>rfl)) sa_nil)) (fun s0 H0 fp=>⟨(sg_name (i:=0) (show (["d","start"]:List Str).Nodup by decide +kernel) rfl (Or.inl rfl)),(sf_one (st_truth (se_op ok_band (se_op ok_shr (sv 1) (sv 0)) se_int))),(sv 0)⟩)) imp_q29
noncomputable def b_q20:DS:=(dRet (dV (dComp [none,none,some 2] (dIEnum (dCons (dOp pIx (dOp pIx (dVar 0) (dVar 1)) (dC (.int 2))) dNil)) (dUnp 2 (dGCons (dName 0) (dGCons (dName 1) dGNil))) (dTst (dOp (pEq false) (dOp pIx (dVar 1) (dC (.int 1))) (dVar 2))) (dTup (dCons (dVar 0) (dCons (dVar 1) dNil))))))
noncomputable def neD(x:Edge×Nat):D:=.tup [nD x.2,eD x.1]
noncomputable def fromE(F:Fn)(p:Nat):List (Edge×Nat):=F.edges.zipIdx.filter fun x=>decide (x.1.p=p)
theorem ix_chart(C:Chart){f:Nat}{F:Fn}(hf:C[f]?=some F):atI (C.map fD) (f:Int)=some (fD F):=by rw [atN,List.getElem?_map,hf];rfl
noncomputable def S_q20:DSp:=fun ds h Q=>∃ (C:Chart) (f p:Nat) (F:Fn),ds=[cD C,nD f,nD p]∧C[f]?=some F∧F.edges.length ≤ 100∧Q (.lst ((fromE F p).map neD)) h
theorem imp_q20:∀ ds h Q,S_q20 ds h Q→runD 3 b_q20 ds h Q:=by
 rintro ds h Q ⟨C,f,p,F,rfl,hf,hl,q⟩
 delta runD b_q20;simp only [List.map_cons,List.map_nil,List.cons_append,List.nil_append,List.length_cons,List.length_nil,List.replicate,Nat.reduceSub,Nat.reduceAdd,Nat.zero_add,Nat.sub_self]
 simp only [cD,ix_chart C hf,fD,VV]
 refine ⟨by rw [enumD_length,List.length_map];omega,?_⟩
 rw [enumD_map]
 refine compL_map (fun pr acc δ h'=>(∃ x y,δ=[x,y,some (nD p)])∧acc=(pr.filter fun x=>decide (x.1.p=p)).map neD∧h'=h) ⟨⟨_,_,rfl⟩,rfl,rfl⟩ (fun _ _ _ _ _=>Src.ok_nil) ?_ ?_
 ·rintro pr x r acc δ h' N e ⟨⟨_,_,rfl⟩,rfl,rfl⟩ hN
  obtain ⟨E,k⟩:=x
  simp only [eD_1,VV]
  rw [beqN]
  refine ⟨trivial,?_⟩
  by_cases c:E.p=p
  ·simp only [c,VV]
   rw [Int.zero_add]
   refine hN _ _ _ ⟨⟨_,_,rfl⟩,?_,rfl⟩
   rw [List.filter_append,List.map_append,List.filter_cons,if_pos (decide_eq_true c)];rfl
  ·simp only [c,VV]
   refine hN _ _ _ ⟨⟨_,_,rfl⟩,?_,rfl⟩
   rw [List.filter_append,List.filter_cons,if_neg (by rw [decide_eq_false c];exact Bool.false_ne_true)];simp
 ·rintro acc δ h' ⟨_,rfl,rfl⟩
  exact q
theorem ok_q20{f:Addr}{fd:FuncData}(F:Fun K "edges_from" "edges_from" s_q20 f fd)(T:Txt P w K mg):FnOk P w K mg base CX0 1 f fd ["chart","f","p"] (spD K 3 S_q20) :=
 fn_ok (k:=0) (b:=b_q20) F sc_q20 (fun cdv A outer s H E hr=>by
  refine ss_one ?_
  refine s_ret ?_
  refine se_v ?_
  exact sn_comp rfl (N':= ["n","edge","p"]) (js:=[none,none,some 2]) ⟨rfl,by decide +kernel,rfl,rfl,rfl⟩ (si_enum rfl T.b_enumerate (sa_cons (se_ix ok_ix (se_ix ok_ix (sv 0) (sv 1) (fun _ _=>rfl)) se_int (fun _ _=>rfl)) sa_nil)) (fun s0 H0 fp=>⟨(sg_tup rfl (sgs_cons (sg_name (i:=0) (show (["n","edge","p"]:List Str).Nodup by decide +kernel) rfl (Or.inl rfl)) (sgs_cons (sg_name (i:=1) (show (["n","edge","p"]:List Str).Nodup by decide +kernel) rfl (Or.inl rfl)) sgs_nil))),(sf_one (st_cmp (ok_eq hr.units) (se_ix ok_ix (sv 1) se_int (fun _ _=>rfl)) (sv 2) (nomark _))),(se_tup (sa_cons (sv 0) (sa_cons (sv 1) sa_nil)))⟩)) imp_q20
noncomputable def b_q30:DS:=(dRet (dOp pIx (dVar 0) (dGet k_MOVE_TABLES (dIf (dTst (dOp (pEq false) (dOp pIx (dVar 0) (dC (.int 0))) (dC (.str "step")))) (dC (.str "step")) (dC (.str "over"))))))
noncomputable def S_q30:DSp:=fun ds h Q=>∃ (E:Edge),ds=[eD E]∧Q (tD (overT E)) h
theorem imp_q30:∀ ds h Q,S_q30 ds h Q→runD 1 b_q30 ds h Q:=by
 rintro ds h Q ⟨E,rfl,q⟩
 obtain ⟨p,q',c,k⟩:=E
 delta runD b_q30;simp only [List.map_cons,List.map_nil,List.cons_append,List.nil_append,List.length_cons,List.length_nil,List.replicate,Nat.reduceSub,Nat.reduceAdd,Nat.zero_add,Nat.sub_self]
 cases k with
 |step t=>simp only [eD,keyS,lkG,k_MOVE_TABLES,VV];exact q
 |call g i b o=>simp only [eD,keyS,lkG,k_MOVE_TABLES,VV];exact q
theorem ok_q30{f:Addr}{fd:FuncData}(F:Fun K "table_past" "table_past" s_q30 f fd)(T:Txt P w K mg):FnOk P w K mg base CX0 1 f fd ["edge"] (spD K 1 S_q30) :=
 fn_ok (k:=0) (b:=b_q30) F sc_q30 (fun cdv A outer s H E hr=>by
  refine ss_one ?_
  refine s_ret ?_
  exact se_ix ok_ix (sv 0) (se_gget (kvs:=k_MOVE_TABLES) rfl T.c_MOVE_TABLES (se_if (st_cmp (ok_eq hr.units) (se_ix ok_ix (sv 0) se_int (fun _ _=>rfl)) se_str (nomark _)) se_str se_str) (fun _ _=>rfl)) (fun _ _=>rfl)) imp_q30
noncomputable def b_q26:DS:=(dRet (dAndV (dOp (pInD false) (dVar 1) (dVar 0)) (dOp pLe (dDGet (dVar 0) (dVar 1)) (dVar 2))))
noncomputable def S_q26:DSp:=fun ds h Q=>∃ (i:Nat) (z:Option Obj) (m:Ct) (k:Kt) (c:Nat),ds=[.ref i,tkD k,nD c]∧h[i]?=some (.dT z (tbD m))∧Q (.bl (met m (k,c))) h
theorem imp_q26:∀ ds h Q,S_q26 ds h Q→runD 3 b_q26 ds h Q:=by
 rintro ds h Q ⟨i,z,m,k,c,rfl,e,q⟩
 delta runD b_q26;simp only [List.map_cons,List.map_nil,List.cons_append,List.nil_append,List.length_cons,List.length_nil,List.replicate,Nat.reduceSub,Nat.reduceAdd,Nat.zero_add,Nat.sub_self]
 simp only [VV]
 refine get_tb e ?_
 unfold met at q
 dsimp only at q
 cases w:look m k with
 |none=>rw [w] at q;simp only [Option.isSome_none,VV];exact q
 |some c0 =>
  rw [w] at q
  simp only [Option.isSome_some,VV]
  refine get_tb e ?_
  rw [w]
  refine ⟨_,rfl,?_⟩
  simp only [VV]
  have:decide ((c0:Int) ≤ (c:Int))=decide (c0 ≤ c):=decide_eq_decide.mpr Int.ofNat_le
  rw [this];exact q
theorem ok_q26{f:Addr}{fd:FuncData}(F:Fun K "is_told" "is_told" s_q26 f fd)(T:Txt P w K mg):FnOk P w K mg base CX0 1 f fd ["costs","key","cost"] (spD K 3 S_q26) :=
 fn_ok (k:=0) (b:=b_q26) F sc_q26 (fun cdv A outer s H E hr=>by
  refine ss_one ?_
  refine s_ret ?_
  exact se_and (se_cmp (ok_inD hr.units) (sv 1) (sv 0) rfl) (se_one (se_cmp ok_le (se_dget hr.units (sv 0) (sv 1) (fun _ _=>rfl)) (sv 2) (nomark _)))) imp_q26
noncomputable def b_q0:DS:=(dSeq (dIfS (dTst (dOp pLtI (dVar 1) (dCB pLen (dCons (dVar 0) dNil)))) (dRet (dOp pIx (dVar 0) (dVar 1))) dNext)
  (dSeq (dAsg (dOp pPlus (dOp pMulI (dC (.int 6007)) (dVar 1)) (dC (.int 29))) (dName 2))
  (dSeq (dIfS (dTst (dOp pGt (dCB pLen (dCons (dVar 0) dNil)) (dC (.int 0)))) (dAsg (dOp pPlus (dVar 2) (dOp pMulI (dC (.int 40961)) (dOp pIx (dVar 0) (dOp pMod (dOp pMulI (dC (.int 7)) (dVar 1)) (dCB pLen (dCons (dVar 0) dNil)))))) (dName 2)) dNext)
  (dRet (dOp pMod (dOp pMulI (dVar 2) (dVar 2)) (dC (.int 1000081)))))))
noncomputable def S_q0:DSp:=fun ds h Q=>∃ (ns:List Int) (k:Nat),ds=[.scr (ns.map .int),nD k]∧ns.length ≤ 63∧(∀ x ∈ ns,Builtin.Int.intBits x ≤ 1048576)∧k ≤ 1000∧∀ r:Int,Builtin.Int.intBits r ≤ 1048576→Q (.int r) h
theorem small_bits{r:Int}(h0:-(2 ^ 64) < r)(h1:r < 2 ^ 64):Builtin.Int.intBits r ≤ 1048576:=Nat.le_trans (intBits_le_64 h0 h1) (by decide)
theorem imp_q0:∀ ds h Q,S_q0 ds h Q→runD 3 b_q0 ds h Q:=by
 rintro ds h Q ⟨ns,k,rfl,hl,hb,hk,q⟩
 delta runD b_q0;simp only [List.map_cons,List.map_nil,List.cons_append,List.nil_append,List.length_cons,List.length_nil,List.replicate,Nat.reduceSub,Nat.reduceAdd,Nat.zero_add,Nat.sub_self]
 (try dsimp only);refine seq_intro fun N hN=>?_
 by_cases z:k < ns.length
 ·have e1:atI (ns.map D.int) (k:Int)=some (.int ns[k]):=by rw [atN,List.getElem?_map,List.getElem?_eq_getElem z];rfl
  have e2:((k:Int) < (ns.length:Int)):=by first | decide | omega
  simp only [List.length_map,e1,e2,VV]
  exact q _ (hb _ (List.getElem_mem z))
 ·have fin:∀ r:Int,0 ≤ r % 1000081∧r % 1000081 < 1000081:=fun r=>by first | decide | omega
  have e2:¬ ((k:Int) < (ns.length:Int)):=by first | decide | omega
  simp only [List.length_map,e2,VV]
  subst hN
  (try dsimp only);refine seq_intro fun N hN=>?_
  simp only [VV]
  refine ⟨mulS (by first | decide | omega),?_⟩
  subst hN
  (try dsimp only);refine seq_intro fun N hN=>?_
  have rest:∀ x:Int,Builtin.Int.intBits x ≤ 2000000→N [some (.scr (ns.map D.int)),some (nD k),some (.int x)] h:=fun x b3=>by
   subst hN
   simp only [VV]
   refine ⟨.of_le b3 b3 (by first | decide | omega),by first | decide | omega,?_⟩
   have:=fin (x * x)
   exact q _ (small_bits (by first | decide | omega) (by first | decide | omega))
  by_cases z0:0 < ns.length
  ·have hi:(7 * (k:Int) % (ns.length:Int)).toNat < ns.length:=by
    have:=Int.emod_lt_of_pos (7 * (k:Int)) (show (0:Int) < ns.length by first | decide | omega)
    have:=Int.emod_nonneg (7 * (k:Int)) (show (ns.length:Int) ≠ 0 by first | decide | omega)
    omega
   have e1:atI (ns.map D.int) (7 * (k:Int) % (ns.length:Int))=some (.int ns[(7 * (k:Int) % (ns.length:Int)).toNat]):=by
    rw [atI_of (Int.emod_nonneg _ (by first | decide | omega)),List.getElem?_map,List.getElem?_eq_getElem hi];rfl
   have e3:((0:Int) < (ns.length:Int)):=by first | decide | omega
   simp only [List.length_map,e1,e3,VV]
   have hx:=hb _ (List.getElem_mem hi)
   generalize ns[(7 * (k:Int) % (ns.length:Int)).toNat]=x at hx
   have b1:Builtin.Int.intBits (40961 * x) ≤ 64 + 1048576:=intBits_mul_le (intBits_le_64 (by decide) (by decide)) hx
   have b2:Builtin.Int.intBits (6007 * (k:Int) + 29 + 40961 * x) ≤ max 64 (64 + 1048576) + 1:=intBits_add_le (intBits_le_64 (by first | decide | omega) (by first | decide | omega)) b1
   exact ⟨mulS (by first | decide | omega),trivial,mulS (by first | decide | omega),rest _ (by first | decide | omega)⟩
  ·have e3:¬ ((0:Int) < (ns.length:Int)):=by first | decide | omega
   simp only [List.length_map,e3,VV]
   exact rest _ (Nat.le_trans (intBits_le_64 (by first | decide | omega) (by first | decide | omega)) (by decide))
theorem ok_q0{f:Addr}{fd:FuncData}(F:Fun K "_law_cell" "_law_cell" s_q0 f fd)(T:Txt P w K mg):FnOk P w K mg base CX0 1 f fd ["_law_script","_law_k"] (spD K 2 S_q0) :=
 fn_ok (k:=0) (b:=b_q0) F sc_q0 (fun cdv A outer s H E hr=>by
  refine ss_cons ?_ ?_
  ·refine s_if ?_ ?_ ?_
   ·exact st_cmp ok_ltI (sv 1) (se_callB ok_len rfl T.b_len PySem.boot_len (sa_cons (sv 0) sa_nil)) (nomark _)
   ·refine ss_one ?_
    refine s_ret ?_
    exact se_ix ok_ix (sv 0) (sv 1) (fun _ _=>rfl)
   exact ss_nil
  refine ss_cons ?_ ?_
  ·refine s_set (i:=2) ?_ ?_ ?_ ?_
   ·exact sc_q0.nd
   ·exact rfl
   ·exact Or.inl rfl
   exact se_op ok_plus (se_op ok_timesI se_int (sv 1)) se_int
  refine ss_cons ?_ ?_
  ·refine s_if ?_ ?_ ?_
   ·exact st_cmp ok_gt (se_callB ok_len rfl T.b_len PySem.boot_len (sa_cons (sv 0) sa_nil)) se_int (nomark _)
   ·refine ss_one ?_
    refine s_set (i:=2) ?_ ?_ ?_ ?_
    ·exact sc_q0.nd
    ·exact rfl
    ·exact Or.inl rfl
    exact se_op ok_plus (sv 2) (se_op ok_timesI se_int (se_ix ok_ix (sv 0) (se_op ok_mod (se_op ok_timesI se_int (sv 1)) (se_callB ok_len rfl T.b_len PySem.boot_len (sa_cons (sv 0) sa_nil))) (fun _ _=>rfl)))
   exact ss_nil
  refine ss_one ?_
  refine s_ret ?_
  exact se_op ok_mod (se_op ok_timesI (sv 2) (sv 2)) se_int) imp_q0
noncomputable def b_q10:DS:=(dSeq (dAsg (dOp pMod (dOp pPlus (dOp pMulI (dOp pIx (dVar 0) (dC (.int 0))) (dC (.int 69621))) (dC (.int 40503))) (dC (.int 2147483647))) (dSubL (dVar 0) (dC (.int 0))))
  (dRet (dOp pMod (dOp pDiv (dOp pIx (dVar 0) (dC (.int 0))) (dC (.int 11))) (dVar 1))))
noncomputable def S_q10:DSp:=fun ds h Q=>∃ (i:Nat) (s m:Int),ds=[.ref i,.int m]∧h[i]?=some (.lst [.int s])∧0 < m∧∀ (s':Int) (r:Nat),(r:Int) < m→Q (nD r) (h.set i (.lst [.int s']))
theorem imp_q10:∀ ds h Q,S_q10 ds h Q→runD 2 b_q10 ds h Q:=by
 rintro ds h Q ⟨i,s,m,rfl,hi,hm,q⟩
 have hil:i < h.length:=(List.getElem?_eq_some_iff.mp hi).1
 simp only [ix_ls (lsOf_ref hi),hi,↓b_q10,↓runD,↓dSeq,VV]
 refine ⟨mulS' (by decide),by decide,?_⟩
 have e:(h.set i (.lst [.int ((s * 69621 + 40503) % 2147483647)]))[i]?=some (.lst [.int ((s * 69621 + 40503) % 2147483647)]):=List.getElem?_set_self hil
 rw [ix_ref0 e]
 simp only [↓b_q10,↓runD,↓dSeq,VV]
 refine ⟨by first | decide | omega,hm,?_⟩
 have h1:=Int.emod_nonneg ((s * 69621 + 40503) % 2147483647 / 11) (show m ≠ 0 by first | decide | omega)
 have h2:=Int.emod_lt_of_pos ((s * 69621 + 40503) % 2147483647 / 11) hm
 have:=q ((s * 69621 + 40503) % 2147483647) ((s * 69621 + 40503) % 2147483647 / 11 % m).toNat (by first | decide | omega)
 rw [show nD ((s * 69621 + 40503) % 2147483647 / 11 % m).toNat = .int ((s * 69621 + 40503) % 2147483647 / 11 % m) from congrArg D.int (by first | decide | omega)] at this
 exact this
theorem ok_q10{f:Addr}{fd:FuncData}(F:Fun K "_law_next" "_law_next" s_q10 f fd)(T:Txt P w K mg):FnOk P w K mg base CX0 1 f fd ["_law_state","_law_many"] (spD K 2 S_q10) :=
 fn_ok (k:=0) (b:=b_q10) F sc_q10 (fun cdv A outer s H E hr=>by
  refine ss_cons ?_ ?_
  ·exact s_asg (se_op ok_mod (se_op ok_plus (se_op ok_timesI (se_ix ok_ix (sv 0) se_int (fun _ _=>rfl)) se_int) se_int) se_int) (sg_subL (sv 0) se_int)
  refine ss_one ?_
  refine s_ret ?_
  exact se_op ok_mod (se_op ok_div (se_ix ok_ix (sv 0) se_int (fun _ _=>rfl)) se_int) (sv 1)) imp_q10
noncomputable def b_q3:DS:=(dRet (dV (dComp [none,none,none] (dISeq (dVar 0)) (dUnp 3 (dGCons (dName 0) (dGCons (dName 1) (dGCons (dName 2) dGNil)))) dNoIf (dTup (dCons (dVar 0) (dCons (dVar 1) (dCons (dV (dListOf (dCons (dVar 2) dNil))) dNil)))))))
noncomputable def S_q3:DSp:=fun ds h Q=>∃ (C:Chart),ds=[cD C]∧C.length ≤ 6∧(∀ F ∈ C,F.edges.length ≤ 100)∧Q (cD C) h
theorem imp_q3:∀ ds h Q,S_q3 ds h Q→runD 1 b_q3 ds h Q:=by
 rintro ds h Q ⟨C,rfl,c6,ce,q⟩
 delta runD b_q3;simp only [List.map_cons,List.map_nil,List.cons_append,List.nil_append,List.length_cons,List.length_nil,List.replicate,Nat.reduceSub,Nat.reduceAdd,Nat.zero_add,Nat.sub_self]
 simp only [cD,VV]
 refine ⟨by rw [List.length_map];omega,?_⟩
 refine compL_map (g:=fD) (fun p acc δ h'=>(∃ x y z,δ=[x,y,z])∧acc=p.map fD∧h'=h) ⟨⟨_,_,_,rfl⟩,rfl,rfl⟩ (fun _ _ _ _ _=>Src.ok_nil) ?_ ?_
 ·rintro p F r acc δ h' N e ⟨⟨x,y,z,rfl⟩,rfl,rfl⟩ hN
  simp only [fD,VV]
  exact ⟨trivial,hN _ _ _ ⟨⟨_,_,_,rfl⟩,by rw [List.map_append];rfl,rfl⟩⟩
 ·rintro acc δ h' ⟨_,rfl,rfl⟩
  exact q
theorem ok_q3{f:Addr}{fd:FuncData}(F:Fun K "_law_copy" "_law_copy" s_q3 f fd)(T:Txt P w K mg):FnOk P w K mg base CX0 1 f fd ["_law_chart_here"] (spD K 1 S_q3) :=
 fn_ok (k:=0) (b:=b_q3) F sc_q3 (fun cdv A outer s H E hr=>by
  refine ss_one ?_
  refine s_ret ?_
  refine se_v ?_
  exact sn_comp rfl (N':= ["_law_places","_law_facts_here","_law_edges"]) (js:=[none,none,none]) ⟨rfl,by decide +kernel,rfl,rfl,rfl⟩ (si_seq (sv 0)) (fun s0 H0 fp=>⟨(sg_tup rfl (sgs_cons (sg_name (i:=0) (show (["_law_places","_law_facts_here","_law_edges"]:List Str).Nodup by decide +kernel) rfl (Or.inl rfl)) (sgs_cons (sg_name (i:=1) (show (["_law_places","_law_facts_here","_law_edges"]:List Str).Nodup by decide +kernel) rfl (Or.inl rfl)) (sgs_cons (sg_name (i:=2) (show (["_law_places","_law_facts_here","_law_edges"]:List Str).Nodup by decide +kernel) rfl (Or.inl rfl)) sgs_nil)))),sf_nil,(se_tup (sa_cons (sv 0) (sa_cons (sv 1) (sa_cons (se_v (sn_list rfl T.b_list (sa_cons (sv 2) sa_nil))) sa_nil))))⟩)) imp_q3
noncomputable def b_q6:DS:=(dRet (dV (dComp [none,some 0] (dIRange (dCons (dC (.int 6)) dNil)) (dName 0) (dTst (dOp (pEq false) (dOp pBand (dOp pShr (dVar 1) (dVar 0)) (dC (.int 1))) (dC (.int 1)))) (dVar 0))))
noncomputable def S_q6:DSp:=fun ds h Q=>∃ m:Nat,ds=[nD m]∧Q (.lst ((facts6 m).map nD)) h
theorem imp_q6:∀ ds h Q,S_q6 ds h Q→runD 1 b_q6 ds h Q:=by
 rintro ds h Q ⟨m,rfl,q⟩
 delta runD b_q6;simp only [List.map_cons,List.map_nil,List.cons_append,List.nil_append,List.length_cons,List.length_nil,List.replicate,Nat.reduceSub,Nat.reduceAdd,Nat.zero_add,Nat.sub_self]
 simp only [VV]
 refine ⟨by first | decide | omega,by rw [rangeD_length];decide,?_⟩
 rw [rangeD_map]
 refine comp1 (fun d=>m.testBit d) nD Src.ok_nil none (fun y hy K k=>?_) (fun y hy _ K k=>?_) ?_
 ·simp only [VV]
  refine ⟨by first | decide | omega,?_⟩
  rw [show ((0:Int) + (y:Nat)).toNat=y by first | decide | omega,bitE]
  exact k
 ·simp only [VV]
  rw [Int.zero_add];exact k
 ·exact q
theorem ok_q6{f:Addr}{fd:FuncData}(F:Fun K "_law_facts" "_law_facts" s_q6 f fd)(T:Txt P w K mg):FnOk P w K mg base CX0 1 f fd ["_law_mask"] (spD K 1 S_q6) :=
 fn_ok (k:=0) (b:=b_q6) F sc_q6 (fun cdv A outer s H E hr=>by
  refine ss_one ?_
  refine s_ret ?_
  refine se_v ?_
  exact sn_comp rfl (N':= ["_law_d","_law_mask"]) (js:=[none,some 0]) ⟨rfl,by decide +kernel,rfl,rfl,rfl⟩ (si_range1 rfl T.b_range (sa_cons se_int sa_nil)) (fun s0 H0 fp=>⟨(sg_name (i:=0) (show (["_law_d","_law_mask"]:List Str).Nodup by decide +kernel) rfl (Or.inl rfl)),(sf_one (st_cmp (ok_eq hr.units) (se_op ok_band (se_op ok_shr (sv 1) (sv 0)) se_int) se_int (nomark _))),(sv 0)⟩)) imp_q6
noncomputable def b_q9:DS:=(dSeq (dAsg (dC (.bl false)) (dName 2))
  (dSeq (dFor (dISeq (dVar 1)) (dUnp 2 (dGCons (dName 3) (dGCons (dName 4) dGNil))) (dIfS (dOr (dTst (dOp (pInD true) (dVar 3) (dVar 0))) (dTst (dOp pGt (dDGet (dVar 0) (dVar 3)) (dVar 4)))) (dSeq (dDPut (dVar 0) (dVar 3) (dVar 4))
  (dAsg (dC (.bl true)) (dName 2))) dNext))
  (dRet (dVar 2))))
noncomputable def S_q9:DSp:=fun ds h Q=>∃ (i:Nat) (m l:Ct),ds=[.ref i,.lst (l.map pkD)]∧h[i]?=some (.dT none (tbD m))∧m.length + l.length < 16777216∧Q (.bl (lower m l).2) (h.set i (.dT none (tbD (lower m l).1)))
theorem put_len(m:Ct)(k:Kt)(v:Nat):(putT m k v).length ≤ m.length + 1:=by
 unfold putT
 split
 ·rw [List.length_map];exact Nat.le_succ _
 ·rw [List.length_append];exact Nat.le_refl _
theorem low_len(s:Ct×Bool)(x:Kt×Nat):(low1 s x).1.length ≤ s.1.length + 1:=by
 unfold low1
 split
 ·exact Nat.le_succ _
 ·exact put_len ..
theorem imp_q9:∀ ds h Q,S_q9 ds h Q→runD 5 b_q9 ds h Q:=by
 rintro ds h Q ⟨i,m,l,rfl,ei,hl,q⟩
 delta runD b_q9;simp only [List.map_cons,List.map_nil,List.cons_append,List.nil_append,List.length_cons,List.length_nil,List.replicate,Nat.reduceSub,Nat.reduceAdd,Nat.zero_add,Nat.sub_self]
 (try dsimp only);refine seq_intro fun N hN=>?_
 simp only [VV]
 subst hN
 (try dsimp only);refine seq_intro fun N hN=>?_
 refine for_intro fun T B hT hB=>?_
 simp only [VV]
 refine forL_map (fun p δ h'=>∃ (s:Ct×Bool) (x3 x4:Option D),s=p.foldl low1 (m,false)∧δ=[some (.ref i),some (.lst (l.map pkD)),some (.bl s.2),x3,x4]∧h'=h.set i (.dT none (tbD s.1))∧s.1.length ≤ m.length + p.length) ⟨(m,false),none,none,rfl,rfl,by rw [set_id ei],Nat.le_refl _⟩ (fun _ _ _ _=>Src.ok_nil) ?_ ?_
 ·rintro p x r δ h' N1 e ⟨s,x3,x4,hs,rfl,rfl,hsl⟩ hN1
  have pl:p.length < l.length:=by rw [e];simp
  subst hT;subst hB
  refine unp2 ?_
  (try dsimp only);refine if_intro fun A1 B1 hA hB=>?_
  have es:(h.set i (.dT none (tbD s.1)))[i]?=some (.dT none (tbD s.1)):=get_set ei
  have nxt:low1 s x=(p ++ [x]).foldl low1 (m,false):=by rw [List.foldl_append,← hs];rfl
  have put:¬ met s.1 x=true→A1 [some (.ref i),some (.lst (l.map pkD)),some (.bl s.2),some (tkD x.1),some (nD x.2)] (h.set i (.dT none (tbD s.1))):=fun nm=>by
   subst hA
   (try dsimp only);refine seq_intro fun N hN=>?_
   simp only [VV]
   refine putH_tb es (by first | decide | omega) ?_
   rw [set_set]
   subst hN
   simp only [VV]
   have en:low1 s x=(putT s.1 x.1 x.2,true):=if_neg nm
   rw [en] at nxt
   exact hN1 _ _ ⟨(putT s.1 x.1 x.2,true),_,_,nxt,rfl,rfl,by rw [List.length_append];exact Nat.le_trans (put_len ..) (by show _ ≤ m.length + (p.length + 1);omega)⟩
  simp only [VV]
  refine get_tb es ?_
  cases w:look s.1 x.1 with
  |none =>
   simp only [Option.isSome_none,VV]
   refine put fun z=>?_
   obtain ⟨c,h1,_⟩:=met_iff.mp z
   rw [w] at h1;cases h1
  |some c0 =>
   simp only [Option.isSome_some,VV]
   refine get_tb es ?_
   rw [w]
   refine ⟨_,rfl,?_⟩
   simp only [VV]
   by_cases c:(x.2:Int) < (c0:Int)
   ·simp only [c,VV]
    refine put fun z=>?_
    obtain ⟨c',h1,h2⟩:=met_iff.mp z
    rw [w] at h1;cases h1;omega
   ·simp only [c,VV]
    have mt:met s.1 x=true:=met_iff.mpr ⟨c0,w,by first | decide | omega⟩
    have en:low1 s x=s:=if_pos mt
    rw [en] at nxt
    subst hB
    simp only [VV]
    exact hN1 _ _ ⟨s,_,_,nxt,rfl,rfl,by rw [List.length_append];exact Nat.le_trans hsl (Nat.add_le_add_left (Nat.le_add_right _ _) _)⟩
 ·rintro δ h' ⟨s,x3,x4,hs,rfl,rfl,hsl⟩
  subst hN
  simp only [VV]
  have:s=lower m l:=hs
  rw [this];exact q
theorem ok_q9{f:Addr}{fd:FuncData}(F:Fun K "_law_lowered" "_law_lowered" s_q9 f fd)(T:Txt P w K mg):FnOk P w K mg base CX0 1 f fd ["_law_known","_law_pairs_here"] (spD K 2 S_q9) :=
 fn_ok (k:=0) (b:=b_q9) F sc_q9 (fun cdv A outer s H E hr=>by
  refine ss_cons ?_ ?_
  ·refine s_set (i:=2) ?_ ?_ ?_ ?_
   ·exact sc_q9.nd
   ·exact rfl
   ·exact Or.inl rfl
   exact se_bl
  refine ss_cons ?_ ?_
  ·refine s_for ?_ ?_ ?_ ?_ ?_
   ·exact PassesOwn.never
   ·exact rfl
   ·exact si_seq (sv 1)
   ·exact sg_tup rfl (sgs_cons (sg_name (i:=3) sc_q9.nd rfl (Or.inl rfl)) (sgs_cons (sg_name (i:=4) sc_q9.nd rfl (Or.inl rfl)) sgs_nil))
   refine ss_one ?_
   refine s_if ?_ ?_ ?_
   ·exact st_w (sw_or (st_cmp (ok_ninD hr.units) (sv 3) (sv 0) rfl) (sw_or1 (st_cmp ok_gt (se_dget hr.units (sv 0) (sv 3) (fun _ _=>rfl)) (sv 4) (nomark _))))
   ·refine ss_cons ?_ ?_
    ·exact s_dput hr.units (sv 0) (sv 3) (sv 4)
    refine ss_one ?_
    refine s_set (i:=2) ?_ ?_ ?_ ?_
    ·exact sc_q9.nd
    ·exact rfl
    ·exact Or.inl rfl
    exact se_bl
   exact ss_nil
  refine ss_one ?_
  refine s_ret ?_
  exact sv 2) imp_q9
noncomputable def b_q11:DS:=(dSeq (dAsg dDNew (dName 1))
  (dSeq (dAsg dDNew (dName 2))
  (dSeq (dFor (dIRange (dCons (dCB pLen (dCons (dVar 0) dNil)) dNil)) (dName 3) (dFor (dIRange (dCons (dOp pIx (dOp pIx (dVar 0) (dVar 3)) (dC (.int 0))) dNil)) (dName 4) (dFor (dIRange (dCons (dOp pIx (dOp pIx (dVar 0) (dVar 3)) (dC (.int 1))) dNil)) (dName 5) (dSeq (dDPut (dVar 2) (dTup (dCons (dVar 3) (dCons (dVar 4) (dCons (dVar 5) dNil)))) (dC (.int 0)))
  (dFor (dIRange (dCons (dOp pIx (dOp pIx (dVar 0) (dVar 3)) (dC (.int 1))) dNil)) (dName 6) (dDPut (dVar 1) (dTup (dCons (dVar 3) (dCons (dVar 6) (dCons (dVar 4) (dCons (dVar 5) dNil))))) (dC (.int 0))))))))
  (dRet (dTup (dCons (dVar 1) (dCons (dVar 2) dNil)))))))
noncomputable def ZD(F:Fn)(I P:Ct)(f p d:Nat):Prop:=Z P [f,p,d]∧∀ a,a < F.facts→Z I [f,a,p,d]
noncomputable def ZQ(F:Fn)(I P:Ct)(f p:Nat):Prop:=∀ d,d < F.facts→ZD F I P f p d
noncomputable def ZF(C:Chart)(I P:Ct)(f:Nat):Prop:=∀ F,C[f]?=some F→∀ p,p < F.places→ZQ F I P f p
section
variable {C:Chart} {F:Fn} {I P:Ct} {f p d:Nat} {k:Kt}
theorem ZD.i(h:ZD F I P f p d):ZD F (putT I k 0) P f p d:=⟨h.1,fun a ha=>(h.2 a ha).put _⟩
theorem ZD.o(h:ZD F I P f p d):ZD F I (putT P k 0) f p d:=⟨h.1.put _,h.2⟩
theorem ZQ.i(h:ZQ F I P f p):ZQ F (putT I k 0) P f p:=fun d hd=>(h d hd).i
theorem ZQ.o(h:ZQ F I P f p):ZQ F I (putT P k 0) f p:=fun d hd=>(h d hd).o
theorem ZF.i(h:ZF C I P f):ZF C (putT I k 0) P f:=fun F hF p hp=>(h F hF p hp).i
theorem ZF.o(h:ZF C I P f):ZF C I (putT P k 0) f:=fun F hF p hp=>(h F hF p hp).o
end
noncomputable def S_q11:DSp:=fun ds h Q=>∃ (C:Chart),ds=[cD C]∧WF C∧Small C∧∀ I P,Nought (K4 C) I→Nought (K3 C) P→Q (.tup [.ref h.length,.ref (h.length + 1)]) (h ++ [.dT none (tbD I),.dT none (tbD P)])
theorem imp_q11:∀ ds h Q,S_q11 ds h Q→runD 7 b_q11 ds h Q:=by
 rintro ds h Q ⟨C,rfl,wf,sm,q⟩
 have c6:=wf.six
 delta runD b_q11;simp only [List.map_cons,List.map_nil,List.cons_append,List.nil_append,List.length_cons,List.length_nil,List.replicate,Nat.reduceSub,Nat.reduceAdd,Nat.zero_add,Nat.sub_self]
 (try dsimp only);refine seq_intro fun N hN=>?_
 simp only [VV]
 subst hN
 (try dsimp only);refine seq_intro fun N hN=>?_
 simp only [VV]
 have l1:(h ++ [O.dT none []]).length=h.length + 1:=by rw [List.length_append];rfl
 rw [l1]
 subst hN
 (try dsimp only);refine seq_intro fun N hN=>?_
 refine for_intro fun T B hT hB=>?_
 simp only [cD,List.length_map,VV]
 refine ⟨rng6 c6,?_⟩
 rw [rangeD_map,Int.toNat_natCast]
 refine forL_map (fun p δ h'=>∃ (I P:Ct) (x3 x4 x5 x6:Option D),δ=[some (.lst (C.map fD)),some (.ref h.length),some (.ref (h.length + 1)),x3,x4,x5,x6]∧h'=h ++ [.dT none (tbD I),.dT none (tbD P)]∧TOk (K4 C) I∧TOk (K3 C) P∧∀ f ∈ p,ZF C I P f) ⟨[],[],_,_,_,_,rfl,by rw [List.append_assoc];rfl,.nil,.nil,fun _ z=>nomatch z⟩ (fun _ _ _ _=>Src.ok_nil) ?_ ?_
 ·rintro p f r δ h' N1 e ⟨I,P,x3,x4,x5,x6,rfl,rfl,tI,tP,hz⟩ hN1
  have fl:=(range_split e).2
  obtain ⟨F,hF⟩:∃ F,C[f]?=some F:=⟨_,List.getElem?_eq_getElem fl⟩
  obtain ⟨w1,w2,w3,w4,w5,w6⟩:=wf.fn f F hF
  subst hT;subst hB
  rw [Int.zero_add]
  refine name_in ?_
  refine for_intro fun T B hT hB=>?_
  simp only [ix_chart C hF,fD,VV]
  refine ⟨rng10 w2,?_⟩
  rw [rangeD_map,Int.toNat_natCast]
  refine forL_map (fun p2 δ h'=>∃ (I P:Ct) (x4 x5 x6:Option D),δ=[some (.lst (C.map fD)),some (.ref h.length),some (.ref (h.length + 1)),some (nD f),x4,x5,x6]∧h'=h ++ [.dT none (tbD I),.dT none (tbD P)]∧TOk (K4 C) I∧TOk (K3 C) P∧(∀ f ∈ p,ZF C I P f)∧∀ q ∈ p2,ZQ F I P f q) ⟨I,P,_,_,_,rfl,rfl,tI,tP,hz,fun _ z=>nomatch z⟩ (fun _ _ _ _=>Src.ok_nil) ?_ ?_
  ·clear tI tP hz
   rintro p2 pp r2 δ h' N2 e2 ⟨I,P,x4,x5,x6,rfl,rfl,tI,tP,hz,hz2⟩ hN2
   have ppl:=(range_split e2).2
   subst hT;subst hB
   rw [Int.zero_add]
   refine name_in ?_
   refine for_intro fun T B hT hB=>?_
   simp only [ix_chart C hF,fD,VV]
   refine ⟨rng6 w4,?_⟩
   rw [rangeD_map,Int.toNat_natCast]
   refine forL_map (fun p3 δ h'=>∃ (I P:Ct) (x5 x6:Option D),δ=[some (.lst (C.map fD)),some (.ref h.length),some (.ref (h.length + 1)),some (nD f),some (nD pp),x5,x6]∧h'=h ++ [.dT none (tbD I),.dT none (tbD P)]∧TOk (K4 C) I∧TOk (K3 C) P∧(∀ f ∈ p,ZF C I P f)∧(∀ q ∈ p2,ZQ F I P f q)∧∀ d ∈ p3,ZD F I P f pp d) ⟨I,P,_,_,rfl,rfl,tI,tP,hz,hz2,fun _ z=>nomatch z⟩ (fun _ _ _ _=>Src.ok_nil) ?_ ?_
   ·clear tI tP hz hz2
    rintro p3 d r3 δ h' N3 e3 ⟨I,P,x5,x6,rfl,rfl,tI,tP,hz,hz2,hz3⟩ hN3
    have dl:=(range_split e3).2
    subst hT;subst hB
    rw [Int.zero_add]
    refine name_in ?_
    (try dsimp only);refine seq_intro fun N hN=>?_
    simp only [VV]
    have lP:=len3 wf sm tP
    refine putH_tb (k:=[f,pp,d]) (v:=0) two_1 (Nat.lt_of_le_of_lt lP (by decide)) ?_
    rw [two_s1]
    have kp:K3 C [f,pp,d]:=⟨f,pp,d,F,rfl,hF,ppl,dl⟩
    have tP':=tP.put (v:=0) kp
    subst hN
    refine for_intro fun T B hT hB=>?_
    simp only [ix_chart C hF,fD,VV]
    refine ⟨rng6 w4,?_⟩
    rw [rangeD_map,Int.toNat_natCast]
    refine forL_map (fun p4 δ h'=>∃ (I:Ct) (x6:Option D),δ=[some (.lst (C.map fD)),some (.ref h.length),some (.ref (h.length + 1)),some (nD f),some (nD pp),some (nD d),x6]∧h'=h ++ [.dT none (tbD I),.dT none (tbD (putT P [f,pp,d] 0))]∧TOk (K4 C) I∧(∀ f ∈ p,ZF C I P f)∧(∀ q ∈ p2,ZQ F I P f q)∧(∀ d ∈ p3,ZD F I P f pp d)∧∀ a ∈ p4,Z I [f,a,pp,d]) ⟨I,_,rfl,rfl,tI,hz,hz2,hz3,fun _ z=>nomatch z⟩ (fun _ _ _ _=>Src.ok_nil) ?_ ?_
    ·clear tI hz hz2 hz3
     rintro p4 a r4 δ h' N4 e4 ⟨I,x6,rfl,rfl,tI,hz,hz2,hz3,hz4⟩ hN4
     have al:=(range_split e4).2
     subst hT;subst hB
     rw [Int.zero_add]
     refine name_in ?_
     simp only [VV]
     have lI:=len4 wf sm tI
     refine putH_tb (k:=[f,a,pp,d]) (v:=0) two_0 (Nat.lt_of_le_of_lt lI (by decide)) ?_
     rw [two_s0]
     refine hN4 _ _ ⟨putT I [f,a,pp,d] 0,_,rfl,rfl,tI.put ⟨f,a,pp,d,F,rfl,hF,al,ppl,dl⟩,fun f hf=>(hz f hf).i,fun q hq=>(hz2 q hq).i,fun d hd=>(hz3 d hd).i,all_snoc (fun a ha=>(hz4 a ha).put _) (Z.new _ _)⟩
    ·clear tI hz hz2 hz3
     rintro δ h' ⟨I,x6,rfl,rfl,tI,hz,hz2,hz3,hz4⟩
     refine hN3 _ _ ⟨I,putT P [f,pp,d] 0,_,_,rfl,rfl,tI,tP',fun f hf=>(hz f hf).o,fun q hq=>(hz2 q hq).o,all_snoc (fun d hd=>(hz3 d hd).o) ⟨Z.new _ _,fun a ha=>hz4 a (List.mem_range.mpr ha)⟩⟩
   ·clear tI tP hz hz2
    rintro δ h' ⟨I,P,x5,x6,rfl,rfl,tI,tP,hz,hz2,hz3⟩
    exact hN2 _ _ ⟨I,P,_,_,_,rfl,rfl,tI,tP,hz,all_snoc hz2 fun d hd=>hz3 d (List.mem_range.mpr hd)⟩
  ·clear tI tP hz
   rintro δ h' ⟨I,P,x4,x5,x6,rfl,rfl,tI,tP,hz,hz2⟩
   refine hN1 _ _ ⟨I,P,_,_,_,_,rfl,rfl,tI,tP,all_snoc hz fun F' hF' p hp=>?_⟩
   rw [hF] at hF';cases hF'
   exact hz2 p (List.mem_range.mpr hp)
 ·rintro δ h' ⟨I,P,x3,x4,x5,x6,rfl,rfl,tI,tP,hz⟩
  subst hN
  simp only [VV]
  refine q I P ⟨tI,?_⟩ ⟨tP,?_⟩
  ·rintro k ⟨f,a,p,d,F,rfl,hF,h1,h2,h3⟩
   exact (hz f (List.mem_range.mpr (List.getElem?_eq_some_iff.mp hF).1) F hF p h2 d h3).2 a h1
  ·rintro k ⟨f,p,d,F,rfl,hF,h2,h3⟩
   exact (hz f (List.mem_range.mpr (List.getElem?_eq_some_iff.mp hF).1) F hF p h2 d h3).1
theorem ok_q11{f:Addr}{fd:FuncData}(F:Fun K "_law_noughts" "_law_noughts" s_q11 f fd)(T:Txt P w K mg):FnOk P w K mg base CX0 1 f fd ["_law_chart_here"] (spD K 1 S_q11) :=
 fn_ok (k:=0) (b:=b_q11) F sc_q11 (fun cdv A outer s H E hr=>by
  refine ss_cons ?_ ?_
  ·refine s_set (i:=1) ?_ ?_ ?_ ?_
   ·exact sc_q11.nd
   ·exact rfl
   ·exact Or.inl rfl
   exact se_dnew
  refine ss_cons ?_ ?_
  ·refine s_set (i:=2) ?_ ?_ ?_ ?_
   ·exact sc_q11.nd
   ·exact rfl
   ·exact Or.inl rfl
   exact se_dnew
  refine ss_cons ?_ ?_
  ·refine s_for ?_ ?_ ?_ ?_ ?_
   ·exact PassesOwn.never
   ·exact rfl
   ·exact si_range1 rfl T.b_range (sa_cons (se_callB ok_len rfl T.b_len PySem.boot_len (sa_cons (sv 0) sa_nil)) sa_nil)
   ·exact sg_name (i:=3) sc_q11.nd rfl (Or.inl rfl)
   refine ss_one ?_
   refine s_for ?_ ?_ ?_ ?_ ?_
   ·exact PassesOwn.never
   ·exact rfl
   ·exact si_range1 rfl T.b_range (sa_cons (se_ix ok_ix (se_ix ok_ix (sv 0) (sv 3) (fun _ _=>rfl)) se_int (fun _ _=>rfl)) sa_nil)
   ·exact sg_name (i:=4) sc_q11.nd rfl (Or.inl rfl)
   refine ss_one ?_
   refine s_for ?_ ?_ ?_ ?_ ?_
   ·exact PassesOwn.never
   ·exact rfl
   ·exact si_range1 rfl T.b_range (sa_cons (se_ix ok_ix (se_ix ok_ix (sv 0) (sv 3) (fun _ _=>rfl)) se_int (fun _ _=>rfl)) sa_nil)
   ·exact sg_name (i:=5) sc_q11.nd rfl (Or.inl rfl)
   refine ss_cons ?_ ?_
   ·exact s_dput hr.units (sv 2) (se_tup (sa_cons (sv 3) (sa_cons (sv 4) (sa_cons (sv 5) sa_nil)))) se_int
   refine ss_one ?_
   refine s_for ?_ ?_ ?_ ?_ ?_
   ·exact PassesOwn.never
   ·exact rfl
   ·exact si_range1 rfl T.b_range (sa_cons (se_ix ok_ix (se_ix ok_ix (sv 0) (sv 3) (fun _ _=>rfl)) se_int (fun _ _=>rfl)) sa_nil)
   ·exact sg_name (i:=6) sc_q11.nd rfl (Or.inl rfl)
   refine ss_one ?_
   exact s_dput hr.units (sv 1) (se_tup (sa_cons (sv 3) (sa_cons (sv 6) (sa_cons (sv 4) (sa_cons (sv 5) sa_nil))))) se_int
  refine ss_one ?_
  refine s_ret ?_
  refine se_tup (n:=2) ?_
  refine sa_cons ?_ ?_
  ·exact sv 1
  refine sa_cons ?_ ?_
  ·exact sv 2
  exact sa_nil) imp_q11
noncomputable def b_q19:DS:=(dSeq (dFor (dIEnum (dCons (dVar 0) dNil)) (dUnp 2 (dGCons (dName 4) (dGCons (dName 5) dGNil))) (dFor (dIRange (dCons (dOp pIx (dVar 5) (dC (.int 1))) dNil)) (dName 6) (dIfS (dTst (dOp (pEq true) (dDGet1 (dVar 2) (dTup (dCons (dVar 4) (dCons (dVar 6) (dCons (dC (.int 0)) (dCons (dVar 6) dNil)))))) (dC (.int 0)))) (dRet (dC (.bl false))) dNext)))
  (dRet (dCB pAll (dCons (dV (dComp [none,some 3] (dISeq (dCal S_q29 (dCons (dVar 0) (dCons (dVar 1) dNil)))) (dName 0) dNoIf (dOp (pEq false) (dDGet1 (dVar 1) (dTup (dCons (dC (.int 0)) (dCons (dC (.int 0)) (dCons (dVar 0) dNil))))) (dC (.int 0))))) dNil))))
theorem eq0(o:Option Nat):(match o.map nD with | some d=>d | none=>D.non)=(match o with | some c=>nD c | none=>.non):=by cases o <;> rfl
noncomputable def S_q19:DSp:=fun ds h Q=>∃ (C:Chart) (st i j:Nat) (z z':Option Obj) (I P:Ct) (F:Fn),ds=[cD C,nD st,.ref i,.ref j]∧h[i]?=some (.dT z (tbD I))∧h[j]?=some (.dT z' (tbD P))∧WF C∧C[0]?=some F∧st < 2 ^ F.facts∧∀ b,(b=true ↔ (∀ x ∈ begI C,Met I x)∧∀ x ∈ begP st,Met P x)→Q (.bl b) h
theorem imp_q19:∀ ds h Q,S_q19 ds h Q→runD 7 b_q19 ds h Q:=by
 rintro ds h Q ⟨C,st,i,j,z,z',I,P,F0,rfl,ei,ej,wf,hF0,hst,q⟩
 delta runD b_q19;simp only [List.map_cons,List.map_nil,List.cons_append,List.nil_append,List.length_cons,List.length_nil,List.replicate,Nat.reduceSub,Nat.reduceAdd,Nat.zero_add,Nat.sub_self]
 (try dsimp only);refine seq_intro fun N hN=>?_
 refine for_intro fun T B hT hB=>?_
 simp only [cD,VV]
 rw [enumD_map]
 refine forL_map (fun p δ h'=>h'=h∧(∃ x4 x5 x6,δ=[some (.lst (C.map fD)),some (nD st),some (.ref i),some (.ref j),x4,x5,x6])∧∀ y ∈ p,∀ x ∈ begF y.2 y.1,Met I x) ⟨rfl,⟨_,_,_,rfl⟩,fun _ z=>nomatch z⟩ (fun _ _ _ _=>Src.ok_nil) ?_ ?_
 ·rintro p ⟨F,f⟩ r δ h' N1 e ⟨rfl,⟨x4,x5,x6,rfl⟩,hp⟩ hN1
  have hmem:(F,f) ∈ C.zipIdx:=by rw [e];simp
  have hF:C[f]?=some F:=List.mem_zipIdx_iff_getElem?.mp hmem
  have f6:=(wf.fn f F hF).2.2.2.1
  subst hT;subst hB
  refine unp2 ?_
  refine for_intro fun T B hT hB=>?_
  simp only [fD,VV]
  refine ⟨rng6 f6,?_⟩
  rw [rangeD_map,Int.toNat_natCast,Int.zero_add]
  refine forL_map (fun p2 δ h''=>h''=h'∧(∃ x6,δ=[some (.lst (C.map fD)),some (nD st),some (.ref i),some (.ref j),some (nD f),some (.tup [nD F.places,nD F.facts,.lst (F.edges.map eD)]),x6])∧∀ d ∈ p2,Met I ([f,d,0,d],0)) ⟨rfl,⟨_,rfl⟩,fun _ z=>nomatch z⟩ (fun _ _ _ _=>Src.ok_nil) ?_ ?_
  ·rintro p2 d r2 δ h'' N2 e2 ⟨rfl,⟨x6,rfl⟩,hp2⟩ hN2
   subst hT;subst hB
   refine name_in ?_
   simp only [VV]
   refine ⟨isDD_tb ei,?_⟩
   rw [Int.zero_add]
   refine get_tb (k:=[f,d,0,d]) ei ?_
   cases w:look I [f,d,0,d] with
   |none =>
    simp only [VV]
    refine q _ ⟨fun z=>(nomatch z),fun z=>?_⟩
    have:=met_put.mp (z.1 _ (mem_begI.mpr ⟨f,F,d,hF,(range_split e2).2,rfl⟩))
    rw [w] at this;cases this
   |some c0 =>
    simp only [VV]
    by_cases c:((c0:Int) == 0)=true
    ·rw [c]
     have c0':c0=0:=by have:=beq_iff_eq.mp c;omega
     subst c0'
     simp only [VV]
     exact hN2 _ _ ⟨rfl,⟨_,rfl⟩,all_snoc hp2 (met_put.mpr w)⟩
    ·rw [Bool.not_eq_true] at c
     rw [c]
     simp only [VV]
     refine q _ ⟨fun z=>(nomatch z),fun z=>?_⟩
     have:=met_put.mp (z.1 _ (mem_begI.mpr ⟨f,F,d,hF,(range_split e2).2,rfl⟩))
     rw [w] at this;cases this;cases c
  ·rintro δ h'' ⟨rfl,⟨x6,rfl⟩,hp2⟩
   refine hN1 _ _ ⟨rfl,⟨_,_,_,rfl⟩,all_snoc hp fun x hx=>?_⟩
   obtain ⟨d,hd,rfl⟩:=List.mem_map.mp hx
   exact hp2 d hd
 ·rintro δ h' ⟨rfl,⟨x4,x5,x6,rfl⟩,hp⟩
  subst hN
  simp only [VV]
  have f6:=(wf.fn 0 F0 hF0).2.2.2.1
  refine ⟨cD C,C,st,F0,rfl,ChD.of _ C,hF0,f6,?_⟩
  simp only [VV]
  have hlen:((List.range F0.facts).filter fun d=>st.testBit d).length ≤ 6:=Nat.le_trans (List.length_filter_le _ _) (by rw [List.length_range];exact f6)
  refine ⟨by rw [List.length_map];omega,?_⟩
  refine comp1n (fun d=>.bl (decide (look P [0,0,d]=some 0))) Src.ok_nil none (fun d hd K k=>?_) ?_
  ·simp only [VV]
   refine ⟨isDD_tb ej,?_⟩
   refine get_tb (k:=[0,0,d]) ej ?_
   cases w:look P [0,0,d] with
   |none=>rw [w] at k;simp only [VV];exact k
   |some c0 =>
    rw [w] at k
    simp only [VV]
    have:((c0:Int) == 0)=decide (some c0=some 0):=by rw [Bool.eq_iff_iff];simp
    rw [this];exact k
  ·refine ⟨_,((List.range F0.facts).filter fun d=>st.testBit d).map fun d=>decide (look P [0,0,d]=some 0),rfl,by simp only [VV];rw [List.map_map];rfl,?_⟩
   refine q _ ?_
   rw [List.all_map,List.all_eq_true]
   constructor
   ·intro hall
    refine ⟨fun x hx=>?_,fun x hx=>?_⟩
    ·obtain ⟨f,F,d,hF,hd,rfl⟩:=mem_begI.mp hx
     exact hp (F,f) (List.mem_zipIdx_iff_getElem?.mpr hF) _ (List.mem_map.mpr ⟨d,List.mem_range.mpr hd,rfl⟩)
    ·obtain ⟨d',_,hb,rfl⟩:=mem_begP.mp hx
     obtain ⟨f,p,d,F,ek,hF,_,hd⟩:=begP_ok wf hF0 hst _ hx
     cases ek
     rw [hF0] at hF;cases hF
     exact met_put.mpr (of_decide_eq_true (hall d' (List.mem_filter.mpr ⟨List.mem_range.mpr hd,hb⟩)))
   ·rintro ⟨_,h2⟩ d hd
    rw [List.mem_filter,List.mem_range] at hd
    exact decide_eq_true (met_put.mp (h2 _ (mem_begP.mpr ⟨d,by first | decide | omega,hd.2,rfl⟩)))
theorem ok_q19{f:Addr}{fd:FuncData}(F:Fun K "begins_are_told" "begins_are_told" s_q19 f fd)(T:Txt P w K mg)(C_q29:Cal P w K mg base 1 "start_facts" ["chart","start"] (spD K 2 S_q29)):FnOk P w K mg base CX0 2 f fd ["chart","start","inside","places"] (spD K 4 S_q19) :=
 fn_ok (k:=1) (b:=b_q19) F sc_q19 (fun cdv A outer s H E hr=>by
  refine ss_cons ?_ ?_
  ·refine s_for ?_ ?_ ?_ ?_ ?_
   ·exact PassesOwn.never
   ·exact rfl
   ·exact si_enum rfl T.b_enumerate (sa_cons (sv 0) sa_nil)
   ·exact sg_tup rfl (sgs_cons (sg_name (i:=4) sc_q19.nd rfl (Or.inl rfl)) (sgs_cons (sg_name (i:=5) sc_q19.nd rfl (Or.inl rfl)) sgs_nil))
   refine ss_one ?_
   refine s_for ?_ ?_ ?_ ?_ ?_
   ·exact PassesOwn.never
   ·exact rfl
   ·exact si_range1 rfl T.b_range (sa_cons (se_ix ok_ix (sv 5) se_int (fun _ _=>rfl)) sa_nil)
   ·exact sg_name (i:=6) sc_q19.nd rfl (Or.inl rfl)
   refine ss_one ?_
   refine s_if ?_ ?_ ?_
   ·exact st_cmp (ok_ne hr.units) (se_dget1 hr.units (sv 2) (se_tup (sa_cons (sv 4) (sa_cons (sv 6) (sa_cons se_int (sa_cons (sv 6) sa_nil))))) ⟨rfl,rfl,rfl,rfl⟩) se_int (nomark _)
   ·refine ss_one ?_
    refine s_ret ?_
    exact se_bl
   exact ss_nil
  refine ss_one ?_
  refine s_ret ?_
  exact se_callB (ok_all rfl) rfl T.b_all PyProof.Rows.boot_all (sa_cons (se_v (sn_comp rfl (N':= ["d","places"]) (js:=[none,some 3]) ⟨rfl,by decide +kernel,rfl,rfl,rfl⟩ (si_seq (se_cal C_q29 (hr.mono (by decide)) rfl (sa_cons (sv 0) (sa_cons (sv 1) sa_nil)))) (fun s0 H0 fp=>⟨(sg_name (i:=0) (show (["d","places"]:List Str).Nodup by decide +kernel) rfl (Or.inl rfl)),sf_nil,(se_cmp (ok_eq hr.units) (se_dget1 hr.units (sv 1) (se_tup (sa_cons se_int (sa_cons se_int (sa_cons (sv 0) sa_nil)))) ⟨rfl,rfl,rfl,rfl⟩) se_int (nomark _))⟩))) sa_nil)) imp_q19
noncomputable def b_q17:DS:=(dSeq (dForI (dIItems (dVar 0)) (dUnp 2 (dGCons (dName 2) (dGCons (dName 3) dGNil))) (dSeq (dAsg (dOp pIx (dVar 2) (dC (.int 0))) (dName 4))
  (dSeq (dAsg (dTup (dCons (dVar 4) (dCons (dC (.int 0)) (dCons (dOp pIx (dVar 2) (dC (.int 1))) dNil)))) (dName 5))
  (dIfS (dAnd (dTst (dOp (pInD false) (dVar 5) (dVar 1))) (dNot (dTr (dCal S_q26 (dCons (dVar 1) (dCons (dTup (dCons (dVar 4) (dCons (dOp pIx (dVar 2) (dC (.int 2))) (dCons (dOp pIx (dVar 2) (dC (.int 3))) dNil)))) (dCons (dOp pPlus (dDGet (dVar 1) (dVar 5)) (dVar 3)) dNil))))))) (dRet (dC (.bl false))) dNext))))
  (dRet (dC (.bl true))))
theorem look4{C:Chart}{I:Ct}(tk:TOk (K4 C) I){x:Kt×Nat}{p r:Ct}(e:I=p ++ x :: r):∃ f a p d F,x.1=[f,a,p,d]∧look I [f,a,p,d]=some x.2∧C[f]?=some F∧a < F.facts∧p < F.places∧d < F.facts:=by
 have hm:x ∈ I:=by rw [e];exact List.mem_append_right _ List.mem_cons_self
 have hc:=look_of tk.nd hm
 obtain ⟨f,a,p,d,F,ek,h⟩:=tk.all _ (look_key.mpr ⟨_,hc⟩)
 exact ⟨f,a,p,d,F,ek,by rw [← ek];exact hc,h⟩
theorem look3{C:Chart}{I:Ct}(tk:TOk (K3 C) I){x:Kt×Nat}{p r:Ct}(e:I=p ++ x :: r):∃ f p d F,x.1=[f,p,d]∧look I [f,p,d]=some x.2∧C[f]?=some F∧p < F.places∧d < F.facts:=by
 have hm:x ∈ I:=by rw [e];exact List.mem_append_right _ List.mem_cons_self
 have hc:=look_of tk.nd hm
 obtain ⟨f,p,d,F,ek,h⟩:=tk.all _ (look_key.mpr ⟨_,hc⟩)
 exact ⟨f,p,d,F,ek,by rw [← ek];exact hc,h⟩
theorem all_keys{I:Ct}{p:Kt→Prop}(h:∀ y ∈ I,p y.1):∀ k ∈ keys I,p k:=fun k hk=>by
 obtain ⟨y,hy,rfl⟩:=List.mem_map.mp hk
 exact h y hy
theorem key_in{I p r:Ct}{x:Kt×Nat}(e:I=p ++ x :: r):x.1 ∈ keys I:=List.mem_map.mpr ⟨x,by rw [e];exact List.mem_append_right _ List.mem_cons_self,rfl⟩
noncomputable def S_q17:DSp:=fun ds h Q=>∃ (C:Chart) (i j:Nat) (I P:Ct),ds=[.ref i,.ref j]∧h[i]?=some (.dT none (tbD I))∧h[j]?=some (.dT none (tbD P))∧i ≠ j∧TOk (K4 C) I∧∀ b,(b=true ↔ ∀ k ∈ keys I,∀ x ∈ along1 P I k,Met P x)→Q (.bl b) h
theorem imp_q17:∀ ds h Q,S_q17 ds h Q→runD 6 b_q17 ds h Q:=by
 rintro ds h Q ⟨C,i,j,I,P,rfl,ei,ej,hij,tk,q⟩
 delta runD b_q17;simp only [List.map_cons,List.map_nil,List.cons_append,List.nil_append,List.length_cons,List.length_nil,List.replicate,Nat.reduceSub,Nat.reduceAdd,Nat.zero_add,Nat.sub_self]
 (try dsimp only);refine seq_intro fun N hN=>?_
 refine forI_intro fun T B hT hB=>?_
 refine forI_by pkD (src_items rfl ei) (fun p δ h'=>h'=h∧(∃ x2 x3 x4 x5,δ=[some (.ref i),some (.ref j),x2,x3,x4,x5])∧∀ y ∈ p,∀ x ∈ along1 P I y.1,Met P x) ⟨rfl,⟨_,_,_,_,rfl⟩,fun _ z=>nomatch z⟩ (fun p δ h' hp=>by rw [hp.1];exact ei) ?_ ?_
 ·rintro p x r δ h' o N1 X1 R X2 e ⟨rfl,⟨x2,x3,x4,x5,rfl⟩,hp⟩ hN1 hR
  obtain ⟨f,a,p',d,F,ek,hc,hF,h1,h2,h3⟩:=look4 tk e
  have kin:=key_in e
  obtain ⟨k,c⟩:=x
  have ek:k=[f,a,p',d]:=ek
  subst ek
  have ej':(fz i o I h')[j]?=some (.dT none (tbD P)):=by rw [fz_ne hij];exact ej
  subst hT;subst hB
  refine unp2 ?_
  (try dsimp only);refine seq_intro fun N hN=>?_
  simp only [tkD,VV]
  subst hN
  (try dsimp only);refine seq_intro fun N hN=>?_
  simp only [VV]
  subst hN
  simp only [VV]
  refine get_tb (k:=[f,0,a]) ej' ?_
  have ea:along1 P I [f,a,p',d]=match look P [f,0,a] with | some c0=>[([f,p',d],c0 + c)] | none=>[]:=by unfold along1;dsimp only;rw [hc];cases look P [f,0,a] <;> rfl
  cases w:look P [f,0,a] with
  |none =>
   simp only [Option.isSome_none,VV]
   refine hN1 _ _ ⟨rfl,⟨_,_,_,_,rfl⟩,all_snoc hp fun x hx=>?_⟩
   rw [ea,w] at hx;cases hx
  |some c0 =>
   simp only [Option.isSome_some,VV]
   refine get_tb (k:=[f,0,a]) ej' ?_
   rw [w]
   refine ⟨_,rfl,?_⟩
   simp only [VV]
   refine ⟨j,none,P,[f,p',d],c0 + c,by rw [nD_add];rfl,ej',?_⟩
   simp only [VV]
   rw [w] at ea
   by_cases m:met P ([f,p',d],c0 + c)=true
   ·rw [m]
    simp only [VV]
    refine hN1 _ _ ⟨rfl,⟨_,_,_,_,rfl⟩,all_snoc hp fun x hx=>?_⟩
    rw [ea] at hx
    rw [List.mem_singleton.mp hx];exact met_iff.mp m
   ·rw [Bool.not_eq_true] at m
    rw [m]
    simp only [VV]
    refine hR _ _ ei (q _ ⟨fun z=>(nomatch z),fun z=>?_⟩)
    have:=z _ kin _ (by rw [ea];exact List.mem_singleton.mpr rfl)
    rw [← met_iff,m] at this;cases this
 ·rintro δ h' ⟨rfl,⟨x2,x3,x4,x5,rfl⟩,hp⟩
  subst hN
  simp only [VV]
  exact q _ ⟨fun _=>all_keys hp,fun _=>rfl⟩
theorem ok_q17{f:Addr}{fd:FuncData}(F:Fun K "alongs_are_told" "alongs_are_told" s_q17 f fd)(T:Txt P w K mg)(C_q26:Cal P w K mg base 1 "is_told" ["costs","key","cost"] (spD K 3 S_q26)):FnOk P w K mg base CX0 2 f fd ["inside","places"] (spD K 2 S_q17) :=
 fn_ok (k:=1) (b:=b_q17) F sc_q17 (fun cdv A outer s H E hr=>by
  refine ss_cons ?_ ?_
  ·exact s_forI PassesOwn.never rfl (si_items (sv 0)) (sg_tup rfl (sgs_cons (sg_name (i:=2) sc_q17.nd rfl (Or.inl rfl)) (sgs_cons (sg_name (i:=3) sc_q17.nd rfl (Or.inl rfl)) sgs_nil))) (ss_cons (s_set (i:=4) sc_q17.nd rfl (Or.inl rfl) (se_ix ok_ix (sv 2) se_int (fun _ _=>rfl)))     (ss_cons (s_set (i:=5) sc_q17.nd rfl (Or.inl rfl) (se_tup (sa_cons (sv 4) (sa_cons se_int (sa_cons (se_ix ok_ix (sv 2) se_int (fun _ _=>rfl)) sa_nil)))))     (ss_one (s_if (st_w (sw_and (st_cmp (ok_inD hr.units) (sv 5) (sv 1) rfl) (sw_and1 (st_not (st_truth (se_cal C_q26 (hr.mono (by decide)) rfl (sa_cons (sv 1) (sa_cons (se_tup (sa_cons (sv 4) (sa_cons (se_ix ok_ix (sv 2) se_int (fun _ _=>rfl)) (sa_cons (se_ix ok_ix (sv 2) se_int (fun _ _=>rfl)) sa_nil)))) (sa_cons (se_op ok_plus (se_dget hr.units (sv 1) (sv 5) (fun _ _=>rfl)) (sv 3)) sa_nil))))))))) (ss_one (s_ret se_bl)) ss_nil))))
  refine ss_one ?_
  refine s_ret ?_
  exact se_bl) imp_q17
noncomputable def b_q18:DS:=(dRet (dCB pAll (dCons (dV (dComp [none,some 0,some 1,some 3] (dISeq (dCal S_q22 (dCons (dVar 2) dNil))) (dName 0) dNoIf (dCal S_q26 (dCons (dVar 1) (dCons (dOp pPlus (dVar 2) (dTup (dCons (dVar 0) dNil))) (dCons (dVar 3) dNil)))))) dNil)))
theorem tk_snoc(bh:Kt)(e:Nat):tkD (bh ++ [e]) = .tup (bh.map nD ++ [nD e]):=by unfold tkD;rw [List.map_append];rfl
noncomputable def S_q18:DSp:=fun ds h Q=>∃ (i:Nat) (z:Option Obj) (m:Ct) (bh:Kt) (mask c:Nat),ds=[.ref i,tkD bh,nD mask,nD c]∧h[i]?=some (.dT z (tbD m))∧bh ≠ []∧bh.length ≤ 10∧mask < 64∧∀ b,(b=true ↔ ∀ e ∈ facts6 mask,Met m (bh ++ [e],c))→Q (.bl b) h
theorem imp_q18:∀ ds h Q,S_q18 ds h Q→runD 4 b_q18 ds h Q:=by
 rintro ds h Q ⟨i,z,m,bh,mask,c,rfl,e,hb,hl,h64,q⟩
 delta runD b_q18;simp only [List.map_cons,List.map_nil,List.cons_append,List.nil_append,List.length_cons,List.length_nil,List.replicate,Nat.reduceSub,Nat.reduceAdd,Nat.zero_add,Nat.sub_self]
 simp only [VV]
 refine ⟨mask,rfl,Nat.lt_trans h64 (by decide),?_⟩
 rw [facts_six h64]
 simp only [VV]
 refine ⟨by rw [List.length_map];have:=len6 mask;omega,?_⟩
 refine comp1n (fun e=>.bl (met m (bh ++ [e],c))) Src.ok_nil none (fun x hx K k=>?_) ?_
 ·simp only [tkD,VV]
  refine ⟨by intro z;exact hb (List.map_eq_nil_iff.mp z),by rw [List.length_map];omega,i,z,m,bh ++ [x],c,by rw [tk_snoc],e,k⟩
 ·refine ⟨_,(facts6 mask).map fun e=>met m (bh ++ [e],c),rfl,by simp only [VV];rw [List.map_map];rfl,?_⟩
  refine q _ ?_
  rw [List.all_map,List.all_eq_true]
  exact ⟨fun h x hx=>met_iff.mp (h x hx),fun h x hx=>met_iff.mpr (h x hx)⟩
theorem ok_q18{f:Addr}{fd:FuncData}(F:Fun K "are_told" "are_told" s_q18 f fd)(T:Txt P w K mg)(C_q22:Cal P w K mg base 1 "facts_in" ["mask"] (spD K 1 S_q22))(C_q26:Cal P w K mg base 1 "is_told" ["costs","key","cost"] (spD K 3 S_q26)):FnOk P w K mg base CX0 2 f fd ["costs","behind","mask","cost"] (spD K 4 S_q18) :=
 fn_ok (k:=1) (b:=b_q18) F sc_q18 (fun cdv A outer s H E hr=>by
  refine ss_one ?_
  refine s_ret ?_
  exact se_callB (ok_all rfl) rfl T.b_all PyProof.Rows.boot_all (sa_cons (se_v (sn_comp rfl (N':= ["e","costs","behind","cost"]) (js:=[none,some 0,some 1,some 3]) ⟨rfl,by decide +kernel,rfl,rfl,rfl⟩ (si_seq (se_cal C_q22 (hr.mono (by decide)) rfl (sa_cons (sv 2) sa_nil))) (fun s0 H0 fp=>⟨(sg_name (i:=0) (show (["e","costs","behind","cost"]:List Str).Nodup by decide +kernel) rfl (Or.inl rfl)),sf_nil,(se_cal C_q26 (hr.mono (by decide)) rfl (sa_cons (sv 1) (sa_cons (se_op ok_plus (sv 2) (se_tup (sa_cons (sv 0) sa_nil))) (sa_cons (sv 3) sa_nil))))⟩))) sa_nil)) imp_q18
noncomputable def b_q4:DS:=(dSeq (dIfS (dTst (dOp pGt (dCal S_q10 (dCons (dVar 0) (dCons (dC (.int 4)) dNil))) (dC (.int 0)))) (dRet (dOp pPlus (dC (.int 1)) (dCal S_q10 (dCons (dVar 0) (dCons (dC (.int 9)) dNil))))) dNext)
  (dRet (dOp pPlus (dC (.int 1)) (dOp pMod (dOp pPlus (dOp pMulI (dCal S_q10 (dCons (dVar 0) (dCons (dOp pPow (dC (.int 10)) (dC (.int 8))) dNil))) (dOp pPow (dC (.int 10)) (dC (.int 10)))) (dOp pMulI (dCal S_q10 (dCons (dVar 0) (dCons (dOp pPow (dC (.int 10)) (dC (.int 8))) dNil))) (dC (.int 239)))) (dOp pPow (dC (.int 10)) (dC (.int 18)))))))
noncomputable def S_q4:DSp:=fun ds h Q=>∃ (i:Nat) (s:Int),ds=[.ref i]∧h[i]?=some (.lst [.int s])∧∀ (s':Int) (c:Nat),1 ≤ c→c ≤ 10 ^ 18→Q (nD c) (h.set i (.lst [.int s']))
theorem imp_q4:∀ ds h Q,S_q4 ds h Q→runD 1 b_q4 ds h Q:=by
 rintro ds h Q ⟨i,s,rfl,hi,q⟩
 delta runD b_q4;simp only [List.map_cons,List.map_nil,List.cons_append,List.nil_append,List.length_cons,List.length_nil,List.replicate,Nat.reduceSub,Nat.reduceAdd,Nat.zero_add,Nat.sub_self]
 (try dsimp only);refine seq_intro fun N hN=>?_
 simp only [VV]
 refine ⟨i,s,4,rfl,hi,by first | decide | omega,fun s1 r1 hr1=>?_⟩
 simp only [VV]
 refine iteB (fun z=>?_) (fun z=>?_)
 ·refine ⟨i,s1,9,rfl,get_set hi,by first | decide | omega,fun s2 r2 hr2=>?_⟩
  simp only [VV]
  rw [set_set,show (1:Int) + (r2:Int)=((1 + r2:Nat):Int) by first | decide | omega]
  exact q _ _ (by first | decide | omega) (by first | decide | omega)
 ·subst hN
  simp only [VV]
  refine ⟨⟨by decide,by decide,by decide⟩,i,s1,_,rfl,get_set hi,by decide,fun s2 r2 hr2=>?_⟩
  simp only [VV]
  refine ⟨⟨by decide,by decide,by decide⟩,mulS' (by decide),⟨by decide,by decide,by decide⟩,i,s2,_,rfl,by rw [set_set];exact get_set hi,by decide,fun s3 r3 hr3=>?_⟩
  simp only [VV]
  refine ⟨mulS' (by decide),⟨by decide,by decide,by decide⟩,by decide,?_⟩
  rw [set_set,set_set]
  have e10:(10:Int) ^ (18:Int).toNat=1000000000000000000:=by decide
  rw [e10]
  generalize (r2:Int) * 10 ^ (10:Int).toNat + (r3:Int) * 239=y
  have h0:=Int.emod_nonneg y (show (1000000000000000000:Int) ≠ 0 by decide)
  have h1:=Int.emod_lt_of_pos y (show (0:Int) < 1000000000000000000 by decide)
  rw [show (1:Int) + y % 1000000000000000000=((1 + (y % 1000000000000000000).toNat:Nat):Int) by first | decide | omega]
  exact q _ _ (by first | decide | omega) (by first | decide | omega)
theorem ok_q4{f:Addr}{fd:FuncData}(F:Fun K "_law_cost" "_law_cost" s_q4 f fd)(T:Txt P w K mg)(C_q10:Cal P w K mg base 1 "_law_next" ["_law_state","_law_many"] (spD K 2 S_q10)):FnOk P w K mg base CX0 2 f fd ["_law_state"] (spD K 1 S_q4) :=
 fn_ok (k:=1) (b:=b_q4) F sc_q4 (fun cdv A outer s H E hr=>by
  refine ss_cons ?_ ?_
  ·refine s_if ?_ ?_ ?_
   ·exact st_cmp ok_gt (se_cal C_q10 (hr.mono (by decide)) rfl (sa_cons (sv 0) (sa_cons se_int sa_nil))) se_int (nomark _)
   ·refine ss_one ?_
    refine s_ret ?_
    exact se_op ok_plus se_int (se_cal C_q10 (hr.mono (by decide)) rfl (sa_cons (sv 0) (sa_cons se_int sa_nil)))
   exact ss_nil
  refine ss_one ?_
  refine s_ret ?_
  exact se_op ok_plus se_int (se_op ok_mod (se_op ok_plus (se_op ok_timesI (se_cal C_q10 (hr.mono (by decide)) rfl (sa_cons (sv 0) (sa_cons (se_op ok_pow se_int se_int) sa_nil))) (se_op ok_pow se_int se_int)) (se_op ok_timesI (se_cal C_q10 (hr.mono (by decide)) rfl (sa_cons (sv 0) (sa_cons (se_op ok_pow se_int se_int) sa_nil))) se_int)) (se_op ok_pow se_int se_int))) imp_q4
noncomputable def b_q15:DS:=(dSeq (dAsg (dTk dNil) (dName 3))
  (dSeq (dFor (dIRange (dCons (dVar 1) dNil)) (dName 4) (dSeq (dAsg (dOp pBor (dOp pBand (dCal S_q10 (dCons (dVar 0) (dCons (dOp pShl (dC (.int 1)) (dVar 2)) dNil))) (dCal S_q10 (dCons (dVar 0) (dCons (dOp pShl (dC (.int 1)) (dVar 2)) dNil)))) (dOp pShl (dC (.int 1)) (dOp pMod (dVar 4) (dVar 2)))) (dName 5))
  (dDrop (dAppend (dVar 3) (dCons (dOp pMulI (dVar 5) (dCB pInt (dCons (dOrV (dOp (pEq false) (dVar 4) (dC (.int 0))) (dOp pGt (dCal S_q10 (dCons (dVar 0) (dCons (dC (.int 5)) dNil))) (dC (.int 0)))) dNil))) dNil)))))
  (dRet (dCB pTuple (dCons (dVar 3) dNil)))))
noncomputable def S_q15:DSp:=fun ds h Q=>∃ (i:Nat) (s:Int) (n m:Nat),ds=[.ref i,nD n,nD m]∧h[i]?=some (.lst [.int s])∧n ≤ 6∧1 ≤ m∧m ≤ 6∧∀ (s':Int) (t:List Nat),tOk t n m→Q (tD t) (h.set i (.lst [.int s']))
theorem imp_q15:∀ ds h Q,S_q15 ds h Q→runD 6 b_q15 ds h (Dr h Q):=by
 rintro ds h Q ⟨i,s,n,m,rfl,hi,hn,hm1,hm6,q⟩
 delta runD b_q15;simp only [List.map_cons,List.map_nil,List.cons_append,List.nil_append,List.length_cons,List.length_nil,List.replicate,Nat.reduceSub,Nat.reduceAdd,Nat.zero_add,Nat.sub_self]
 (try dsimp only);refine seq_intro fun N hN=>?_
 simp only [VV]
 subst hN
 (try dsimp only);refine seq_intro fun N hN=>?_
 refine for_intro fun T B hT hB=>?_
 simp only [VV]
 refine ⟨by first | decide | omega,?_⟩
 rw [rangeD_map,Int.toNat_natCast]
 have h64:2 ^ m ≤ 64:=Nat.pow_le_pow_right (n:=2) (by decide) hm6
 have hp:(1:Int) * 2 ^ (m:Int).toNat=((2 ^ m:Nat):Int):=shl1 m
 have hpos:0 < 2 ^ m:=Nat.two_pow_pos m
 have eh:h ++ [O.lst []]=(h.set i (.lst [.int s])) ++ [.lst []]:=by rw [set_id hi]
 refine forL_map (fun p δ h'=>∃ (t:List Nat) (s':Int) (x1 x2:Option D),δ=[some (.ref i),some (nD n),some (nD m),some (.ref h.length),x1,x2]∧h'=(h.set i (.lst [.int s'])) ++ [.lst (t.map nD)]∧t.length=p.length∧∀ x ∈ t,x < 2 ^ m) ⟨[],s,none,none,rfl,eh,rfl,fun x hx=>nomatch hx⟩ (fun _ _ _ _=>Src.ok_nil) ?_ ?_
 ·rintro p d r δ h' N1 e ⟨t,s',x1,x2,rfl,rfl,hl,ht⟩ hN1
  obtain ⟨hdp,hd⟩:=range_split e
  subst hT;subst hB
  refine name_in ?_
  (try dsimp only);refine seq_intro fun N hN=>?_
  simp only [VV]
  refine ⟨⟨by first | decide | omega,by first | decide | omega,by decide⟩,i,s',_,rfl,st_get hi,by rw [hp];omega,fun s1 r1 hr1=>?_⟩
  simp only [VV]
  rw [st_set hi]
  refine ⟨⟨by first | decide | omega,by first | decide | omega,by decide⟩,i,s1,_,rfl,st_get hi,by rw [hp];omega,fun s2 r2 hr2=>?_⟩
  simp only [VV]
  rw [st_set hi]
  have em:(0 + (d:Int)) % (m:Int)=((d % m:Nat):Int):=by rw [Int.zero_add];exact (Int.natCast_emod d m).symm
  have hdm:d % m < m:=Nat.mod_lt _ (by first | decide | omega)
  rw [em]
  refine ⟨by first | decide | omega,⟨by first | decide | omega,by first | decide | omega,by decide⟩,?_⟩
  rw [shl1,band_nat,bor_nat]
  have hk:(r1 &&& r2) ||| 2 ^ (d % m) < 2 ^ m:=Nat.or_lt_two_pow (Nat.and_lt_two_pow _ (by rw [hp] at hr2;omega)) (Nat.pow_lt_pow_right (by decide) hdm)
  generalize (r1 &&& r2) ||| 2 ^ (d % m)=mk at hk
  have fin:∀ (s3:Int) (b:Nat),b ≤ 1→N1 [some (.ref i),some (nD n),some (nD m),some (.ref h.length),some (.int (0 + (d:Int))),some (nD mk)] ((h.set i (.lst [.int s3])) ++ [.lst (t.map nD ++ [.int ((mk:Int) * (b:Int))])]):=fun s3 b hb=>by
   refine hN1 _ _ ⟨t ++ [mk * b],s3,_,_,rfl,by simp,by simp [hl],fun x hx=>?_⟩
   rcases List.mem_append.mp hx with z | z
   ·exact ht x z
   ·rw [List.mem_singleton.mp z]
    have:b=0∨b=1:=by first | decide | omega
    rcases this with rfl | rfl <;> omega
  have hlen:t.length < 16777216:=by first | decide | omega
  subst hN
  have ng:(List.set h i (O.lst [D.int s2]) ++ [O.lst (t.map nD)])[List.length h]?=some (.lst (t.map nD)):=nw_get
  simp only [ng,VV]
  refine iteB (fun z=>?_) (fun z=>?_)
  ·simp only [nw_get,nw_set,List.length_map,VV]
   refine ⟨mulS' (by decide),hlen,?_⟩
   exact fin s2 1 (by first | decide | omega)
  ·refine ⟨i,s2,5,rfl,st_get hi,by first | decide | omega,fun s3 r3 hr3=>?_⟩
   rw [st_set hi]
   simp only [nw_get,nw_set,List.length_map,VV]
   by_cases z3:(0:Int) < (r3:Int)
   ·simp only [z3,VV]
    exact ⟨mulS' (by decide),hlen,fin s3 1 (by first | decide | omega)⟩
   ·simp only [z3,VV]
    exact ⟨mulS' (by decide),hlen,fin s3 0 (by first | decide | omega)⟩
 ·rintro δ h' ⟨t,s',x1,x2,rfl,rfl,hl,ht⟩
  subst hN
  have ng:lsOf (List.set h i (O.lst [D.int s']) ++ [O.lst (t.map nD)]) (.ref h.length)=some (t.map nD):=lsOf_ref nw_get
  simp only [seq_ls ng,VV]
  exact Dr.state hi rfl (nrD_tD t) (q s' t ⟨by rw [hl];simp,ht⟩)
theorem ok_q15{f:Addr}{fd:FuncData}(F:Fun K "_law_table" "_law_table" s_q15 f fd)(T:Txt P w K mg)(C_q10:Cal P w K mg base 1 "_law_next" ["_law_state","_law_many"] (spD K 2 S_q10)):FnOk P w K mg base CX0 2 f fd ["_law_state","_law_many","_law_facts_here"] (spD K 3 S_q15) :=
 fn_okD (k:=1) (b:=b_q15) F sc_q15 (fun cdv A outer s H E hr=>by
  refine ss_cons ?_ ?_
  ·refine s_set (i:=3) ?_ ?_ ?_ ?_
   ·exact sc_q15.nd
   ·exact rfl
   ·exact Or.inl rfl
   exact se_t (sn_lst sa_nil)
  refine ss_cons ?_ ?_
  ·refine s_for ?_ ?_ ?_ ?_ ?_
   ·exact PassesOwn.never
   ·exact rfl
   ·exact si_range1 rfl T.b_range (sa_cons (sv 1) sa_nil)
   ·exact sg_name (i:=4) sc_q15.nd rfl (Or.inl rfl)
   refine ss_cons ?_ ?_
   ·refine s_set (i:=5) ?_ ?_ ?_ ?_
    ·exact sc_q15.nd
    ·exact rfl
    ·exact Or.inl rfl
    exact se_op ok_bor (se_op ok_band (se_cal C_q10 (hr.mono (by decide)) rfl (sa_cons (sv 0) (sa_cons (se_op ok_shl se_int (sv 2)) sa_nil))) (se_cal C_q10 (hr.mono (by decide)) rfl (sa_cons (sv 0) (sa_cons (se_op ok_shl se_int (sv 2)) sa_nil)))) (se_op ok_shl se_int (se_op ok_mod (sv 4) (sv 2)))
   refine ss_one ?_
   refine s_expr ?_
   exact se_append (sv 3) (sa_cons (se_op ok_timesI (sv 5) (se_callTy ok_int rfl T.b_int PyProof.Rows.boot_int (sa_cons (se_or (se_cmp (ok_eq hr.units) (sv 4) se_int (nomark _)) (se_one (se_cmp ok_gt (se_cal C_q10 (hr.mono (by decide)) rfl (sa_cons (sv 0) (sa_cons se_int sa_nil))) se_int (nomark _)))) sa_nil))) sa_nil)
  refine ss_one ?_
  refine s_ret ?_
  exact se_callTy ok_tuple rfl T.b_tuple PyProof.Rows.boot_tuple (sa_cons (sv 3) sa_nil)) imp_q15
noncomputable def b_q14:DS:=(dRet (dOp pPlus (dC (.int 1)) (dOp pMod (dCal S_q0 (dCons (dVar 0) (dCons (dC (.int 5)) dNil))) (dOp pSub (dOp pShl (dC (.int 1)) (dOp pIx (dOp pIx (dVar 1) (dC (.int 0))) (dC (.int 1)))) (dC (.int 1))))))
noncomputable def S_q14:DSp:=fun ds h Q=>∃ (ns:List Int) (c:D) (C:Chart) (F:Fn),ds=[.scr (ns.map .int),c]∧ns.length ≤ 63∧(∀ x ∈ ns,Builtin.Int.intBits x ≤ 1048576)∧ChD h c C∧C[0]?=some F∧1 ≤ F.facts∧F.facts ≤ 6∧∀ st:Nat,1 ≤ st→st < 2 ^ F.facts→Q (nD st) h
theorem imp_q14:∀ ds h Q,S_q14 ds h Q→runD 2 b_q14 ds h Q:=by
 rintro ds h Q ⟨ns,c,C,F,rfl,hl,hb,hc,hF,f1,f6,q⟩
 obtain ⟨x,e1,e2⟩:=hc.fn hF
 have e1:ixD h c (.int 0)=some (.tup [nD F.places,nD F.facts,x]):=e1
 delta runD b_q14;simp only [List.map_cons,List.map_nil,List.cons_append,List.nil_append,List.length_cons,List.length_nil,List.replicate,Nat.reduceSub,Nat.reduceAdd,Nat.zero_add,Nat.sub_self]
 simp only [VV]
 refine ⟨ns,5,rfl,hl,hb,by first | decide | omega,fun r hr=>?_⟩
 simp only [e1,VV]
 have hp:2 ≤ 2 ^ F.facts:=by
  have:=Nat.pow_le_pow_right (n:=2) (by decide) f1
  simpa using this
 have e3:((2 ^ F.facts:Nat):Int) - 1=((2 ^ F.facts - 1:Nat):Int):=by first | decide | omega
 rw [shl1,e3]
 refine ⟨⟨by first | decide | omega,by first | decide | omega,by decide⟩,by first | decide | omega,?_⟩
 have h0:=Int.emod_nonneg r (show ((2 ^ F.facts - 1:Nat):Int) ≠ 0 by first | decide | omega)
 have h1:=Int.emod_lt_of_pos r (show (0:Int) < ((2 ^ F.facts - 1:Nat):Int) by first | decide | omega)
 rw [show (1:Int) + r % ((2 ^ F.facts - 1:Nat):Int)=((1 + (r % ((2 ^ F.facts - 1:Nat):Int)).toNat:Nat):Int) by first | decide | omega]
 exact q _ (by first | decide | omega) (by first | decide | omega)
theorem ok_q14{f:Addr}{fd:FuncData}(F:Fun K "_law_start" "_law_start" s_q14 f fd)(T:Txt P w K mg)(C_q0:Cal P w K mg base 1 "_law_cell" ["_law_script","_law_k"] (spD K 2 S_q0)):FnOk P w K mg base CX0 2 f fd ["_law_script","_law_chart_here"] (spD K 2 S_q14) :=
 fn_ok (k:=1) (b:=b_q14) F sc_q14 (fun cdv A outer s H E hr=>by
  refine ss_one ?_
  refine s_ret ?_
  exact se_op ok_plus se_int (se_op ok_mod (se_cal C_q0 (hr.mono (by decide)) rfl (sa_cons (sv 0) (sa_cons se_int sa_nil))) (se_op ok_sub (se_op ok_shl se_int (se_ix ok_ix (se_ix ok_ix (sv 1) se_int (fun _ _=>rfl)) se_int (fun _ _=>rfl))) se_int))) imp_q14
noncomputable def b_q13:DS:=(dSeq (dAsg (dVar 2) (dUnp 4 (dGCons (dName 3) (dGCons (dName 4) (dGCons (dName 5) (dGCons (dName 6) dGNil))))))
  (dSeq (dAsg (dTk dNil) (dName 7))
  (dSeq (dFor (dISeq (dOp pIx (dOp pIx (dVar 0) (dVar 3)) (dC (.int 2)))) (dName 8) (dSeq (dIfS (dTst (dOp (pEq false) (dOp pIx (dVar 8) (dC (.int 1))) (dVar 5))) (dFor (dISeq (dCal S_q6 (dCons (dOp pIx (dOp pIx (dVar 8) (dUn pNeg (dC (.int 1)))) (dVar 6)) dNil))) (dName 9) (dDrop (dAppend (dVar 7) (dCons (dTup (dCons (dTup (dCons (dVar 3) (dCons (dVar 4) (dCons (dOp pIx (dVar 8) (dC (.int 2))) (dCons (dVar 9) dNil))))) (dCons (dOp pPlus (dDGet (dVar 1) (dVar 2)) (dOp pIx (dVar 8) (dC (.int 3)))) dNil))) dNil)))) dNext)
  (dIfS (dAnd (dTst (dOp (pEq false) (dOp pIx (dVar 8) (dC (.int 1))) (dVar 5))) (dTst (dOp (pEq false) (dOp pIx (dVar 8) (dC (.int 0))) (dC (.str "call"))))) (dSeq (dAsg (dOp pIx (dVar 8) (dC (.int 4))) (dName 10))
  (dFor (dISeq (dCal S_q6 (dCons (dOp pIx (dOp pIx (dVar 8) (dC (.int 5))) (dVar 6)) dNil))) (dName 11) (dFor (dIRange (dCons (dOp pIx (dOp pIx (dVar 0) (dVar 10)) (dC (.int 1))) dNil)) (dName 12) (dSeq (dAsg (dDGet1 (dVar 1) (dTup (dCons (dVar 10) (dCons (dVar 11) (dCons (dOp pSub (dOp pIx (dOp pIx (dVar 0) (dVar 10)) (dC (.int 0))) (dC (.int 1))) (dCons (dVar 12) dNil)))))) (dName 13))
  (dIfS (dTst (dOp (pIs true) (dVar 13) (dC .non))) (dSeq (dAsg (dOp pPlus (dOp pPlus (dDGet (dVar 1) (dVar 2)) (dOp pIx (dVar 8) (dC (.int 3)))) (dVar 13)) (dName 14))
  (dDrop (dExtend (dVar 7) (dCons (dV (dComp [none,some 3,some 4,some 8,some 14] (dISeq (dCal S_q6 (dCons (dOp pIx (dOp pIx (dVar 8) (dC (.int 6))) (dVar 12)) dNil))) (dName 0) dNoIf (dTup (dCons (dTup (dCons (dVar 1) (dCons (dVar 2) (dCons (dOp pIx (dVar 3) (dC (.int 2))) (dCons (dVar 0) dNil))))) (dCons (dVar 4) dNil))))) dNil)))) dNext))))) dNext)))
  (dRet (dVar 7)))))
theorem pk4(f a q e c w:Nat):pkD ([f,a,q] ++ [e],c + w) = .tup [.tup [nD f,nD a,nD q,nD e],.int ((c:Int) + (w:Int))]:=by
 show D.tup [tkD [f,a,q,e],nD (c + w)]=_
 rw [nD_add];rfl
theorem pk4'(f a q e c w v:Nat):pkD ([f,a,q] ++ [e],c + w + v) = .tup [.tup [nD f,nD a,nD q,nD e],.int ((c:Int) + (w:Int) + (v:Int))]:=by
 show D.tup [tkD [f,a,q,e],nD (c + w + v)]=_
 rw [nD_add,Int.natCast_add];rfl
noncomputable def S_q13:DSp:=fun ds h Q=>∃ (C:Chart) (i f a p d c:Nat) (z:Option Obj) (I:Ct) (F:Fn),ds=[cD C,.ref i,tkD [f,a,p,d]]∧h[i]?=some (.dT z (tbD I))∧C[f]?=some F∧look I [f,a,p,d]=some c∧WF C∧d < F.facts∧Q (.lst ((F.edges.flatMap (edgeP C I f a p d c)).map pkD)) h
theorem imp_q13:∀ ds h Q,S_q13 ds h Q→runD 15 b_q13 ds h (Dr h Q):=by
 rintro ds h Q ⟨C,i,f,a,p,d,c,z,I,F,rfl,ei,hF,hc,wf,hd,q⟩
 obtain ⟨w1,w2,w3,w4,w5,w6⟩:=wf.fn f F hF
 have gI:∀ (xs:List D) (Q:Option D→Prop),Q (some (nD c))→DL.getD (.ref i) (tkD [f,a,p,d]) (h ++ [.lst xs]) Q:=fun xs Q k=>get_tb (app_get ei) (by rw [hc];exact k)
 delta runD b_q13;simp only [List.map_cons,List.map_nil,List.cons_append,List.nil_append,List.length_cons,List.length_nil,List.replicate,Nat.reduceSub,Nat.reduceAdd,Nat.zero_add,Nat.sub_self]
 (try dsimp only);refine seq_intro fun N hN=>?_
 simp only [tkD,VV]
 refine ⟨trivial,?_⟩
 subst hN
 (try dsimp only);refine seq_intro fun N hN=>?_
 simp only [VV]
 subst hN
 (try dsimp only);refine seq_intro fun N hN=>?_
 refine for_intro fun T B hT hB=>?_
 simp only [cD,ix_chart C hF,fD,VV]
 refine forL_map (fun pr δ h'=>∃ (x8 x9 x10 x11 x12 x13 x14:Option D),δ=[some (.lst (C.map fD)),some (.ref i),some (tkD [f,a,p,d]),some (nD f),some (nD a),some (nD p),some (nD d),some (.ref h.length),x8,x9,x10,x11,x12,x13,x14]∧h'=h ++ [.lst ((pr.flatMap (edgeP C I f a p d c)).map pkD)]) ⟨_,_,_,_,_,_,_,rfl,rfl⟩ (fun _ _ _ _=>Src.ok_nil) ?_ ?_
 ·rintro pr E r δ h' N1 e ⟨x8,x9,x10,x11,x12,x13,x14,rfl,rfl⟩ hN1
  have hE:E ∈ F.edges:=by rw [e];simp
  have eok:=w6 E hE
  have t3:=over_ok eok
  have prl:pr.length < 100:=by
   have:pr.length < F.edges.length:=by rw [e];simp
   exact Nat.lt_of_lt_of_le this w5
  have accl:=Nat.le_trans (len_edges wf (I:=I) (f:=f) (a:=a) (p:=p) (d:=d) (c:=c) pr) (Nat.mul_le_mul_right 222 (Nat.le_of_lt prl))
  obtain ⟨acc,ha⟩:∃ acc,acc=pr.flatMap (edgeP C I f a p d c):=⟨_,rfl⟩
  have hN1:∀ (x8 x9 x10 x11 x12 x13 x14:Option D),N1 [some (.lst (C.map fD)),some (.ref i),some (tkD [f,a,p,d]),some (nD f),some (nD a),some (nD p),some (nD d),some (.ref h.length),x8,x9,x10,x11,x12,x13,x14] (h ++ [.lst ((acc ++ edgeP C I f a p d c E).map pkD)]):=fun x8 x9 x10 x11 x12 x13 x14=>hN1 _ _ ⟨x8,x9,x10,x11,x12,x13,x14,rfl,by rw [List.flatMap_append,← ha];simp⟩
  rw [← ha] at accl ⊢
  subst hT;subst hB
  refine name_in ?_
  (try dsimp only);refine seq_intro fun N hN=>?_
  (try dsimp only);refine if_intro fun A1 B1 hA hB=>?_
  simp only [eD_1,VV]
  rw [beqN]
  by_cases hp:E.p=p
  ·have ee:edgeP C I f a p d c E=overP f a d c E ++ callP C I f a d c E:=if_pos hp
   rw [ee] at hN1
   rw [if_pos (decide_eq_true hp)]
   subst hA
   refine for_intro fun T2 B2 hT2 hB2=>?_
   have lo:=len6 ((overT E).getD d 0)
   simp only [eD_last,tD_ix _ t3 hd,VV]
   refine ⟨_,rfl,?_⟩
   simp only [VV]
   refine forL_map (fun p2 δ h'=>∃ x9:Option D,δ=[some (.lst (C.map fD)),some (.ref i),some (tkD [f,a,p,d]),some (nD f),some (nD a),some (nD p),some (nD d),some (.ref h.length),some (eD E),x9,x10,x11,x12,x13,x14]∧h'=h ++ [.lst ((acc ++ p2.map fun e=>([f,a,E.q] ++ [e],c + E.cost)).map pkD)]) ⟨_,rfl,by simp⟩ (fun _ _ _ _=>Src.ok_nil) ?_ ?_
   ·rintro p2 b r2 δ h' N2 e2 ⟨x9,rfl,rfl⟩ hN2
    have p2l:p2.length < 6:=by
     have:p2.length < (facts6 ((overT E).getD d 0)).length:=by rw [e2];simp
     exact Nat.lt_of_lt_of_le this lo
    subst hT2;subst hB2
    refine name_in ?_
    simp only [get_new,eD_2,eD_3,VV]
    refine gI _ _ ⟨_,rfl,?_⟩
    simp only [get_new,set_new,eD_3,VV]
    refine ⟨by rw [List.length_map,List.length_append,List.length_map];exact Nat.lt_of_le_of_lt (Nat.add_le_add accl (Nat.le_of_lt p2l)) (by decide),hN2 _ _ ⟨_,rfl,?_⟩⟩
    rw [List.map_append (l₁:=p2),← List.append_assoc,List.map_append (l₂:=List.map _ [b]),List.map_cons,List.map_nil,List.map_cons,List.map_nil,pk4]
    rfl
   ·rintro δ h' ⟨x9,rfl,rfl⟩
    have eo:(facts6 ((overT E).getD d 0)).map (fun e=>([f,a,E.q] ++ [e],c + E.cost))=overP f a d c E:=rfl
    rw [eo]
    have ol:(overP f a d c E).length ≤ 6:=by rw [← eo,List.length_map];exact lo
    rw [← List.append_assoc] at hN1
    obtain ⟨acc2,ha2⟩:∃ acc2,acc2=acc ++ overP f a d c E:=⟨_,rfl⟩
    rw [← ha2] at hN1 ⊢
    have acl2:acc2.length ≤ 22206:=by rw [ha2,List.length_append];exact Nat.add_le_add accl ol
    subst hN
    (try dsimp only);refine if_intro fun A1 B1 hA hB=>?_
    obtain ⟨ep,eq,ec,ek⟩:=E
    have hp:ep=p:=hp
    cases ek with
    |step t =>
     have hpp:((ep:Int) == (p:Int))=true:=by rw [beqN];exact decide_eq_true hp
     simp only [eD,hpp,VV]
     subst hB
     simp only [VV]
     have:callP C I f a d c ⟨ep,eq,ec,.step t⟩=[]:=rfl
     rw [this,List.append_nil] at hN1
     exact hN1 ..
    |call g ti t oo =>
     obtain ⟨_,_,_,_,G,hG,t1,t2,_⟩:=eok
     obtain ⟨g1,g2,g3,g4,g5,g6⟩:=wf.fn g G hG
     have hpp:((ep:Int) == (p:Int))=true:=by rw [beqN];exact decide_eq_true hp
     have ecall:callP C I f a d c ⟨ep,eq,ec,.call g ti t oo⟩=(facts6 (ti.getD d 0)).flatMap fun b'=>(List.range G.facts).flatMap fun y=>shortP I t g (G.places - 1) y b' [f,a,eq] (c + ec):=by unfold callP;dsimp only;rw [hG]
     rw [ecall] at hN1
     simp only [eD,hpp,VV]
     subst hA
     (try dsimp only);refine seq_intro fun N hN=>?_
     simp only [VV]
     subst hN
     refine for_intro fun T3 B3 hT3 hB3=>?_
     have lb:=len6 (ti.getD d 0)
     simp only [tD_ix _ t1 hd,VV]
     refine ⟨_,rfl,?_⟩
     simp only [VV]
     refine forL_map (fun p3 δ h'=>∃ x11 x12 x13 x14:Option D,δ=[some (.lst (C.map fD)),some (.ref i),some (tkD [f,a,p,d]),some (nD f),some (nD a),some (nD p),some (nD d),some (.ref h.length),some (.tup [.str "call",nD ep,nD eq,nD ec,nD g,tD ti,tD t,tD oo]),x9,some (nD g),x11,x12,x13,x14]∧h'=h ++ [.lst ((acc2 ++ p3.flatMap fun b'=>(List.range G.facts).flatMap fun y=>shortP I t g (G.places - 1) y b' [f,a,eq] (c + ec)).map pkD)]) ⟨_,_,_,_,rfl,by simp⟩ (fun _ _ _ _=>Src.ok_nil) ?_ ?_
     ·rintro p3 b' r3 δ h' N3 e3 ⟨x11,x12,x13,x14,rfl,rfl⟩ hN3
      have p3l:p3.length < 6:=by
       have:p3.length < (facts6 (ti.getD d 0)).length:=by rw [e3];simp
       exact Nat.lt_of_lt_of_le this lb
      have fl3:=flat_len (l:=p3) (fun b'=>len_rows C wf hG I t (G.places - 1) b' [f,a,eq] (c + ec))
      obtain ⟨acc3,ha3⟩:∃ acc3,acc3=acc2 ++ p3.flatMap fun b'=>(List.range G.facts).flatMap fun y=>shortP I t g (G.places - 1) y b' [f,a,eq] (c + ec):=⟨_,rfl⟩
      have acl3:acc3.length ≤ 22422:=by rw [ha3,List.length_append];exact Nat.add_le_add acl2 (Nat.le_trans fl3 (Nat.mul_le_mul_right 36 (Nat.le_of_lt p3l)))
      have hN3:∀ x12 x13 x14:Option D,N3 [some (.lst (C.map fD)),some (.ref i),some (tkD [f,a,p,d]),some (nD f),some (nD a),some (nD p),some (nD d),some (.ref h.length),some (.tup [.str "call",nD ep,nD eq,nD ec,nD g,tD ti,tD t,tD oo]),x9,some (nD g),some (nD b'),x12,x13,x14] (h ++ [.lst ((acc3 ++ (List.range G.facts).flatMap fun y=>shortP I t g (G.places - 1) y b' [f,a,eq] (c + ec)).map pkD)]):=fun x12 x13 x14=>hN3 _ _ ⟨_,_,_,_,rfl,by rw [List.flatMap_append,ha3];simp⟩
      rw [← ha3]
      subst hT3;subst hB3
      refine name_in ?_
      refine for_intro fun T4 B4 hT4 hB4=>?_
      simp only [ix_chart C hG,fD,VV]
      refine ⟨rng6 g4,?_⟩
      rw [rangeD_map,Int.toNat_natCast]
      refine forL_map (fun p4 δ h'=>∃ x12 x13 x14:Option D,δ=[some (.lst (C.map fD)),some (.ref i),some (tkD [f,a,p,d]),some (nD f),some (nD a),some (nD p),some (nD d),some (.ref h.length),some (.tup [.str "call",nD ep,nD eq,nD ec,nD g,tD ti,tD t,tD oo]),x9,some (nD g),some (nD b'),x12,x13,x14]∧h'=h ++ [.lst ((acc3 ++ p4.flatMap fun y=>shortP I t g (G.places - 1) y b' [f,a,eq] (c + ec)).map pkD)]) ⟨_,_,_,rfl,by simp⟩ (fun _ _ _ _=>Src.ok_nil) ?_ ?_
      ·rintro p4 y r4 δ h' N4 e4 ⟨x12,x13,x14,rfl,rfl⟩ hN4
       have hy:=(range_split e4)
       have fl4:=flat_len (l:=p4) (fun y=>len_short I t g (G.places - 1) y b' [f,a,eq] (c + ec))
       obtain ⟨acc4,ha4⟩:∃ acc4,acc4=acc3 ++ p4.flatMap fun y=>shortP I t g (G.places - 1) y b' [f,a,eq] (c + ec):=⟨_,rfl⟩
       have acl4:acc4.length ≤ 22458:=by rw [ha4,List.length_append];exact Nat.add_le_add acl3 (Nat.le_trans fl4 (Nat.mul_le_mul_right 6 (Nat.le_of_lt (Nat.lt_of_lt_of_le (hy.1 ▸ hy.2) g4))))
       have hN4:∀ x13 x14:Option D,N4 [some (.lst (C.map fD)),some (.ref i),some (tkD [f,a,p,d]),some (nD f),some (nD a),some (nD p),some (nD d),some (.ref h.length),some (.tup [.str "call",nD ep,nD eq,nD ec,nD g,tD ti,tD t,tD oo]),x9,some (nD g),some (nD b'),some (nD y),x13,x14] (h ++ [.lst ((acc4 ++ shortP I t g (G.places - 1) y b' [f,a,eq] (c + ec)).map pkD)]):=fun x13 x14=>hN4 _ _ ⟨_,_,_,rfl,by rw [List.flatMap_append,ha4];simp⟩
       rw [← ha4,Int.zero_add]
       subst hT4;subst hB4
       refine name_in ?_
       (try dsimp only);refine seq_intro fun N hN=>?_
       simp only [ix_chart C hG,fD,VV]
       refine ⟨isDD_tb (app_get ei),?_⟩
       rw [show (G.places:Int) - 1=((G.places - 1:Nat):Int) by first | decide | omega]
       refine get_tb (k:=[g,b',G.places - 1,y]) (app_get ei) ?_
       have es:shortP I t g (G.places - 1) y b' [f,a,eq] (c + ec)=match look I [g,b',G.places - 1,y] with | none=>[] | some c'=>(facts6 (t.getD y 0)).map fun e=>([f,a,eq] ++ [e],c + ec + c'):=rfl
       cases w:look I [g,b',G.places - 1,y] with
       |none =>
        rw [w] at es
        rw [es,List.append_nil] at hN4
        subst hN
        simp only [VV]
        exact hN4 _ _
       |some c0 =>
        rw [w] at es
        rw [es] at hN4
        subst hN
        (try dsimp only);refine if_intro fun A1 B1 hA hB=>?_
        simp only [VV]
        subst hA
        (try dsimp only);refine seq_intro fun N hN=>?_
        simp only [VV]
        refine gI _ _ ⟨_,rfl,?_⟩
        simp only [VV]
        subst hN
        have lt:=len6 (t.getD y 0)
        simp only [get_new,tD_ix _ t2 hy.2,VV]
        refine ⟨_,rfl,?_⟩
        simp only [VV]
        refine ⟨by rw [List.length_map];exact Nat.le_trans lt (by decide),?_⟩
        refine comp1n (fun e=>pkD ([f,a,eq] ++ [e],c + ec + c0)) Src.ok_nil none (fun x hx K k=>?_) ?_
        ·rw [pk4'] at k
         simp only [VV]
         exact k
        ·simp only [get_new,set_new,VV]
         refine ⟨by rw [List.length_map,List.length_map];exact Nat.le_trans (Nat.add_le_add acl4 lt) (by decide),?_⟩
         have:=hN4 (some (nD c0)) (some (.int ((c:Int) + (ec:Int) + (c0:Int))))
         rw [List.map_append,List.map_map] at this
         exact this
      ·rintro δ h' ⟨x12,x13,x14,rfl,rfl⟩
       exact hN3 ..
     ·rintro δ h' ⟨x11,x12,x13,x14,rfl,rfl⟩
      exact hN1 ..
  ·have ee:edgeP C I f a p d c E=[]:=if_neg hp
   rw [ee,List.append_nil] at hN1
   rw [if_neg (by rw [decide_eq_false hp];exact Bool.false_ne_true)]
   subst hB
   simp only [VV]
   subst hN
   simp only [eD_1,VV]
   rw [beqN]
   simp only [hp,VV]
   exact hN1 ..
 ·rintro δ h' ⟨x8,x9,x10,x11,x12,x13,x14,rfl,rfl⟩
  subst hN
  simp only [VV]
  exact Dr.dropL (g1:=[]) (g2:=[]) (nrDs_map nrD_pkD _) rfl q
theorem ok_q13{f:Addr}{fd:FuncData}(F:Fun K "_law_pairs" "_law_pairs" s_q13 f fd)(T:Txt P w K mg)(C_q6:Cal P w K mg base 1 "_law_facts" ["_law_mask"] (spD K 1 S_q6)):FnOk P w K mg base CX0 2 f fd ["_law_chart_here","_law_inside","_law_key"] (spD K 3 S_q13) :=
 fn_okD (k:=1) (b:=b_q13) F sc_q13 (fun cdv A outer s H E hr=>by
  refine ss_cons ?_ ?_
  ·exact s_asg (sv 2) (sg_tup rfl (sgs_cons (sg_name (i:=3) sc_q13.nd rfl (Or.inr rfl)) (sgs_cons (sg_name (i:=4) sc_q13.nd rfl (Or.inr rfl)) (sgs_cons (sg_name (i:=5) sc_q13.nd rfl (Or.inl rfl)) (sgs_cons (sg_name (i:=6) sc_q13.nd rfl (Or.inl rfl)) sgs_nil)))))
  refine ss_cons ?_ ?_
  ·refine s_set (i:=7) ?_ ?_ ?_ ?_
   ·exact sc_q13.nd
   ·exact rfl
   ·exact Or.inl rfl
   exact se_t (sn_lst sa_nil)
  refine ss_cons ?_ ?_
  ·refine s_for ?_ ?_ ?_ ?_ ?_
   ·exact PassesOwn.never
   ·exact rfl
   ·exact si_seq (se_ix ok_ix (se_ix ok_ix (sv 0) (sv 3) (fun _ _=>rfl)) se_int (fun _ _=>rfl))
   ·exact sg_name (i:=8) sc_q13.nd rfl (Or.inr rfl)
   refine ss_cons ?_ ?_
   ·refine s_if ?_ ?_ ?_
    ·exact st_cmp (ok_eq hr.units) (se_ix ok_ix (sv 8) se_int (fun _ _=>rfl)) (sv 5) (nomark _)
    ·refine ss_one ?_
     refine s_for ?_ ?_ ?_ ?_ ?_
     ·exact PassesOwn.never
     ·exact rfl
     ·exact si_seq (se_cal C_q6 (hr.mono (by decide)) rfl (sa_cons (se_ix ok_ix (se_ix ok_ix (sv 8) (se_un ok_neg se_int) (fun _ _=>rfl)) (sv 6) (fun _ _=>rfl)) sa_nil))
     ·exact sg_name (i:=9) sc_q13.nd rfl (Or.inl rfl)
     refine ss_one ?_
     refine s_expr ?_
     exact se_append (sv 7) (sa_cons (se_tup (sa_cons (se_tup (sa_cons (sv 3) (sa_cons (sv 4) (sa_cons (se_ix ok_ix (sv 8) se_int (fun _ _=>rfl)) (sa_cons (sv 9) sa_nil))))) (sa_cons (se_op ok_plus (se_dget hr.units (sv 1) (sv 2) (fun _ _=>rfl)) (se_ix ok_ix (sv 8) se_int (fun _ _=>rfl))) sa_nil))) sa_nil)
    exact ss_nil
   refine ss_one ?_
   refine s_if ?_ ?_ ?_
   ·exact st_w (sw_and (st_cmp (ok_eq hr.units) (se_ix ok_ix (sv 8) se_int (fun _ _=>rfl)) (sv 5) (nomark _)) (sw_and1 (st_cmp (ok_eq hr.units) (se_ix ok_ix (sv 8) se_int (fun _ _=>rfl)) se_str (nomark _))))
   ·refine ss_cons ?_ ?_
    ·refine s_set (i:=10) ?_ ?_ ?_ ?_
     ·exact sc_q13.nd
     ·exact rfl
     ·exact Or.inl rfl
     exact se_ix ok_ix (sv 8) se_int (fun _ _=>rfl)
    refine ss_one ?_
    refine s_for ?_ ?_ ?_ ?_ ?_
    ·exact PassesOwn.never
    ·exact rfl
    ·exact si_seq (se_cal C_q6 (hr.mono (by decide)) rfl (sa_cons (se_ix ok_ix (se_ix ok_ix (sv 8) se_int (fun _ _=>rfl)) (sv 6) (fun _ _=>rfl)) sa_nil))
    ·exact sg_name (i:=11) sc_q13.nd rfl (Or.inl rfl)
    refine ss_one ?_
    refine s_for ?_ ?_ ?_ ?_ ?_
    ·exact PassesOwn.never
    ·exact rfl
    ·exact si_range1 rfl T.b_range (sa_cons (se_ix ok_ix (se_ix ok_ix (sv 0) (sv 10) (fun _ _=>rfl)) se_int (fun _ _=>rfl)) sa_nil)
    ·exact sg_name (i:=12) sc_q13.nd rfl (Or.inl rfl)
    refine ss_cons ?_ ?_
    ·refine s_set (i:=13) ?_ ?_ ?_ ?_
     ·exact sc_q13.nd
     ·exact rfl
     ·exact Or.inl rfl
     exact se_dget1 hr.units (sv 1) (se_tup (sa_cons (sv 10) (sa_cons (sv 11) (sa_cons (se_op ok_sub (se_ix ok_ix (se_ix ok_ix (sv 0) (sv 10) (fun _ _=>rfl)) se_int (fun _ _=>rfl)) se_int) (sa_cons (sv 12) sa_nil))))) ⟨rfl,rfl,rfl,rfl⟩
    refine ss_one ?_
    refine s_if ?_ ?_ ?_
    ·exact st_cmp ok_isnot (sv 13) se_non (nomark _)
    ·refine ss_cons ?_ ?_
     ·refine s_set (i:=14) ?_ ?_ ?_ ?_
      ·exact sc_q13.nd
      ·exact rfl
      ·exact Or.inr rfl
      exact se_op ok_plus (se_op ok_plus (se_dget hr.units (sv 1) (sv 2) (fun _ _=>rfl)) (se_ix ok_ix (sv 8) se_int (fun _ _=>rfl))) (sv 13)
     refine ss_one ?_
     refine s_expr ?_
     refine se_extend (n:=1) ?_ ?_
     ·exact sv 7
     refine sa_cons ?_ ?_
     ·refine se_v ?_
      exact sn_comp rfl (N':= ["_law_e","_law_f","_law_a","_law_edge_here","_law_cost_here"]) (js:=[none,some 3,some 4,some 8,some 14]) ⟨rfl,by decide +kernel,rfl,rfl,rfl⟩ (si_seq (se_cal C_q6 (hr.mono (by decide)) rfl (sa_cons (se_ix ok_ix (se_ix ok_ix (sv 8) se_int (fun _ _=>rfl)) (sv 12) (fun _ _=>rfl)) sa_nil))) (fun s0 H0 fp=>⟨(sg_name (i:=0) (show (["_law_e","_law_f","_law_a","_law_edge_here","_law_cost_here"]:List Str).Nodup by decide +kernel) rfl (Or.inl rfl)),sf_nil,(se_tup (sa_cons (se_tup (sa_cons (sv 1) (sa_cons (sv 2) (sa_cons (se_ix ok_ix (sv 3) se_int (fun _ _=>rfl)) (sa_cons (sv 0) sa_nil))))) (sa_cons (sv 4) sa_nil)))⟩)
     exact sa_nil
    exact ss_nil
   exact ss_nil
  refine ss_one ?_
  refine s_ret ?_
  exact sv 7) imp_q13
noncomputable def b_q12:DS:=(dSeq (dAsg (dTk dNil) (dName 3))
  (dSeq (dForI (dIDict (dVar 1)) (dName 4) (dSeq (dAsg (dVar 4) (dUnp 4 (dGCons (dName 5) (dGCons (dName 6) (dGCons (dName 7) (dGCons (dName 8) dGNil))))))
  (dIfS (dTst (dOp (pInD false) (dTup (dCons (dVar 5) (dCons (dC (.int 0)) (dCons (dVar 6) dNil)))) (dVar 2))) (dDrop (dAppend (dVar 3) (dCons (dTup (dCons (dTup (dCons (dVar 5) (dCons (dVar 7) (dCons (dVar 8) dNil)))) (dCons (dOp pPlus (dDGet (dVar 2) (dTup (dCons (dVar 5) (dCons (dC (.int 0)) (dCons (dVar 6) dNil))))) (dDGet (dVar 1) (dVar 4))) dNil))) dNil))) dNext)))
  (dSeq (dForI (dIDict (dVar 2)) (dName 4) (dSeq (dAsg (dVar 4) (dUnp 3 (dGCons (dName 5) (dGCons (dName 7) (dGCons (dName 8) dGNil)))))
  (dFor (dISeq (dOp pIx (dOp pIx (dVar 0) (dVar 5)) (dC (.int 2)))) (dName 9) (dIfS (dAnd (dTst (dOp (pEq false) (dOp pIx (dVar 9) (dC (.int 0))) (dC (.str "call")))) (dTst (dOp (pEq false) (dOp pIx (dVar 9) (dC (.int 1))) (dVar 7)))) (dDrop (dExtend (dVar 3) (dCons (dV (dComp [none,some 9,some 2,some 4] (dISeq (dCal S_q6 (dCons (dOp pIx (dOp pIx (dVar 9) (dC (.int 5))) (dVar 8)) dNil))) (dName 0) dNoIf (dTup (dCons (dTup (dCons (dOp pIx (dVar 1) (dC (.int 4))) (dCons (dC (.int 0)) (dCons (dVar 0) dNil)))) (dCons (dOp pPlus (dDGet (dVar 2) (dVar 3)) (dOp pIx (dVar 1) (dC (.int 3)))) dNil))))) dNil))) dNext))))
  (dRet (dVar 3)))))
theorem along_of{P I:Ct}{f a p d c:Nat}(hc:look I [f,a,p,d]=some c):along1 P I [f,a,p,d]=match look P [f,0,a] with | some c0=>[([f,p,d],c0 + c)] | none=>[]:=by unfold along1;dsimp only;rw [hc];cases look P [f,0,a] <;> rfl
theorem in_of{C:Chart}{P:Ct}{f p d c:Nat}{F:Fn}(hF:C[f]?=some F)(hc:look P [f,p,d]=some c):in1 C P [f,p,d]=F.edges.flatMap (inE d p c):=by unfold in1;dsimp only;rw [hF,hc]
theorem len_along(P I:Ct)(k:Kt):(along1 P I k).length ≤ 1:=by
 unfold along1
 split
 ·split
  ·exact Nat.le_refl _
  ·exact Nat.zero_le _
 ·exact Nat.zero_le _
theorem len_inE(d p c:Nat)(E:Edge):(inE d p c E).length ≤ 6:=by
 unfold inE
 split
 ·exact Nat.zero_le _
 ·split
  ·rw [List.length_map];exact len6 _
  ·exact Nat.zero_le _
theorem len_in{C:Chart}(wf:WF C)(P:Ct)(k:Kt):(in1 C P k).length ≤ 600:=by
 unfold in1
 split
 ·split
  ·rename_i F c hF hc
   have:=(wf.fn _ F hF).2.2.2.2.1
   exact Nat.le_trans (flat_len (l:=F.edges) (len_inE _ _ c)) (by first | decide | omega)
  ·exact Nat.zero_le _
 ·exact Nat.zero_le _
theorem keys_len(m:Ct):(keys m).length=m.length:=List.length_map ..
theorem keys_snoc(p:Ct)(x:Kt×Nat):keys (p ++ [x])=keys p ++ [x.1]:=by unfold keys;rw [List.map_append];rfl
theorem pk3(a b c v w:Nat):pkD ([a,b,c],v + w) = .tup [.tup [nD a,nD b,nD c],.int ((v:Int) + (w:Int))]:=by
 show D.tup [tkD [a,b,c],nD (v + w)]=_
 rw [nD_add];rfl
theorem len_outer{C:Chart}(wf:WF C){I P:Ct}(lI:I.length ≤ 324)(lP:P.length ≤ 54):(outerN C I P).length ≤ 100000:=by
 have h1:=flat_len (l:=keys I) (len_along P I)
 have h2:=flat_len (l:=keys P) (len_in wf P)
 rw [keys_len] at h1 h2
 unfold outerN
 rw [List.length_append]
 exact Nat.le_trans (Nat.add_le_add (Nat.le_trans h1 (Nat.mul_le_mul_right 1 lI)) (Nat.le_trans h2 (Nat.mul_le_mul_right 600 lP))) (by decide)
noncomputable def S_q12:DSp:=fun ds h Q=>∃ (C:Chart) (i j:Nat) (I P:Ct),ds=[cD C,.ref i,.ref j]∧h[i]?=some (.dT none (tbD I))∧h[j]?=some (.dT none (tbD P))∧i ≠ j∧WF C∧TOk (K4 C) I∧TOk (K3 C) P∧I.length ≤ 1000∧P.length ≤ 1000∧Q (.lst ((outerN C I P).map pkD)) h
theorem imp_q12:∀ ds h Q,S_q12 ds h Q→runD 10 b_q12 ds h (Dr h Q):=by
 rintro ds h Q ⟨C,i,j,I,P,rfl,ei,ej,hij,wf,tk,tp,li,lp,q⟩
 delta runD b_q12;simp only [List.map_cons,List.map_nil,List.cons_append,List.nil_append,List.length_cons,List.length_nil,List.replicate,Nat.reduceSub,Nat.reduceAdd,Nat.zero_add,Nat.sub_self]
 (try dsimp only);refine seq_intro fun N hN=>?_
 simp only [VV]
 subst hN
 (try dsimp only);refine seq_intro fun N hN=>?_
 refine forI_intro fun T B hT hB=>?_
 refine forI_by (m:=I) (i:=i) (fun x=>tkD x.1) (src_keys rfl (app_get ei)) (fun p δ h'=>∃ (x4 x5 x6 x7 x8 x9:Option D),δ=[some (cD C),some (.ref i),some (.ref j),some (.ref h.length),x4,x5,x6,x7,x8,x9]∧h'=h ++ [.lst (((keys p).flatMap (along1 P I)).map pkD)]) ⟨_,_,_,_,_,_,rfl,rfl⟩ (fun p δ h' hp=>by obtain ⟨_,_,_,_,_,_,_,rfl⟩:=hp;exact app_get ei) ?_ ?_
 ·rintro p x r δ h' o N1 X1 R X2 e ⟨x4,x5,x6,x7,x8,x9,rfl,rfl⟩ hN1 hR
  obtain ⟨f,a,p',d,F,ek,hc,hF,h1,h2,h3⟩:=look4 tk e
  have pl:p.length < I.length:=by rw [e];simp
  have al:=flat_len (l:=keys p) (len_along P I)
  rw [keys_len] at al
  obtain ⟨k,c⟩:=x
  have ek:k=[f,a,p',d]:=ek
  have hc:look I [f,a,p',d]=some c:=hc
  subst ek
  obtain ⟨acc,ha⟩:∃ acc,acc=(keys p).flatMap (along1 P I):=⟨_,rfl⟩
  have hN1:∀ x4 x5 x6 x7 x8 x9:Option D,N1 [some (cD C),some (.ref i),some (.ref j),some (.ref h.length),x4,x5,x6,x7,x8,x9] (fz i o I (h ++ [.lst ((acc ++ along1 P I [f,a,p',d]).map pkD)])):=fun x4 x5 x6 x7 x8 x9=>hN1 _ _ ⟨x4,x5,x6,x7,x8,x9,rfl,by rw [keys_snoc,List.flatMap_append,← ha];simp⟩
  rw [← ha] at al ⊢
  have eI:(fz i o I (h ++ [.lst (acc.map pkD)]))[i]?=some (.dT (some o) (tbD I)):=fz_get (app_get ei)
  have eP:(fz i o I (h ++ [.lst (acc.map pkD)]))[j]?=some (.dT none (tbD P)):=by rw [fz_ne hij];exact app_get ej
  have eL:(fz i o I (h ++ [.lst (acc.map pkD)]))[h.length]?=some (.lst (acc.map pkD)):=fz_app ei
  have ea:=along_of (P:=P) hc
  subst hT;subst hB
  refine name_in ?_
  (try dsimp only);refine seq_intro fun N hN=>?_
  simp only [tkD,VV]
  refine ⟨trivial,?_⟩
  subst hN
  (try dsimp only);refine if_intro fun A1 B1 hA hB=>?_
  simp only [VV]
  refine get_tb (k:=[f,0,a]) eP ?_
  cases w:look P [f,0,a] with
  |none =>
   rw [w] at ea
   rw [ea,List.append_nil] at hN1
   simp only [Option.isSome_none,VV]
   subst hB
   simp only [VV]
   exact hN1 ..
  |some c0 =>
   rw [w] at ea
   rw [ea] at hN1
   simp only [Option.isSome_some,VV]
   subst hA
   simp only [eL,VV]
   refine get_tb (k:=[f,0,a]) eP ?_
   rw [w]
   refine ⟨_,rfl,?_⟩
   refine get_tb (k:=[f,a,p',d]) eI ?_
   rw [hc]
   refine ⟨_,rfl,?_⟩
   simp only [eL,fz_put ei,VV]
   refine ⟨by rw [List.length_map];exact Nat.lt_of_le_of_lt (Nat.le_trans al (Nat.le_trans (Nat.le_of_eq (Nat.mul_one _)) (Nat.le_trans (Nat.le_of_lt pl) li))) (by decide),?_⟩
   have:=hN1 (some (tkD [f,a,p',d])) (some (nD f)) (some (nD a)) (some (nD p')) (some (nD d)) x9
   rw [List.map_append,List.map_cons,List.map_nil,pk3] at this
   exact this
 ·rintro δ h' ⟨x4,x5,x6,x7,x8,x9,rfl,rfl⟩
  obtain ⟨acc0,ha0⟩:∃ acc0,acc0=(keys I).flatMap (along1 P I):=⟨_,rfl⟩
  have al0:acc0.length ≤ 1000:=by
   have:=flat_len (l:=keys I) (len_along P I)
   rw [keys_len,← ha0] at this;omega
  have eout:outerN C I P=acc0 ++ (keys P).flatMap (in1 C P):=by rw [ha0];rfl
  rw [eout] at q
  rw [← ha0]
  subst hN
  (try dsimp only);refine seq_intro fun N hN=>?_
  refine forI_intro fun T B hT hB=>?_
  refine forI_by (m:=P) (i:=j) (fun x=>tkD x.1) (src_keys rfl (app_get ej)) (fun p δ h'=>∃ (x4 x5 x6 x7 x8 x9:Option D),δ=[some (cD C),some (.ref i),some (.ref j),some (.ref h.length),x4,x5,x6,x7,x8,x9]∧h'=h ++ [.lst ((acc0 ++ (keys p).flatMap (in1 C P)).map pkD)]) ⟨_,_,_,_,_,_,rfl,by simp [keys]⟩ (fun p δ h' hp=>by obtain ⟨_,_,_,_,_,_,_,rfl⟩:=hp;exact app_get ej) ?_ ?_
  ·rintro p x r δ h' o N1 X1 R X2 e ⟨x4,x5,x6,x7,x8,x9,rfl,rfl⟩ hN1 hR
   obtain ⟨f,p',d,F,ek,hc,hF,h2,h3⟩:=look3 tp e
   obtain ⟨w1,w2,w3,w4,w5,w6⟩:=wf.fn f F hF
   have pl:p.length < P.length:=by rw [e];simp
   have al:=flat_len (l:=keys p) (len_in wf P)
   rw [keys_len] at al
   obtain ⟨k,c⟩:=x
   have ek:k=[f,p',d]:=ek
   have hc:look P [f,p',d]=some c:=hc
   subst ek
   obtain ⟨acc,ha⟩:∃ acc,acc=acc0 ++ (keys p).flatMap (in1 C P):=⟨_,rfl⟩
   have al:acc.length ≤ 601000:=by rw [ha,List.length_append];exact Nat.add_le_add al0 (Nat.le_trans al (Nat.mul_le_mul_right 600 (Nat.le_trans (Nat.le_of_lt pl) lp)))
   have hN1:∀ x4 x5 x6 x7 x8 x9:Option D,N1 [some (cD C),some (.ref i),some (.ref j),some (.ref h.length),x4,x5,x6,x7,x8,x9] (fz j o P (h ++ [.lst ((acc ++ in1 C P [f,p',d]).map pkD)])):=fun x4 x5 x6 x7 x8 x9=>hN1 _ _ ⟨x4,x5,x6,x7,x8,x9,rfl,by rw [keys_snoc,List.flatMap_append,ha];simp⟩
   rw [in_of hF hc] at hN1
   rw [← ha]
   subst hT;subst hB
   refine name_in ?_
   (try dsimp only);refine seq_intro fun N hN=>?_
   simp only [tkD,VV]
   refine ⟨trivial,?_⟩
   subst hN
   refine for_intro fun T2 B2 hT2 hB2=>?_
   simp only [cD,ix_chart C hF,fD,VV]
   refine forL_map (fun p2 δ h'=>∃ x9:Option D,δ=[some (.lst (C.map fD)),some (.ref i),some (.ref j),some (.ref h.length),some (tkD [f,p',d]),some (nD f),x6,some (nD p'),some (nD d),x9]∧h'=fz j o P (h ++ [.lst ((acc ++ p2.flatMap (inE d p' c)).map pkD)])) ⟨_,rfl,by simp⟩ (fun _ _ _ _=>Src.ok_nil) ?_ ?_
   ·rintro p2 E r2 δ h' N2 e2 ⟨x9,rfl,rfl⟩ hN2
    have hE:E ∈ F.edges:=by rw [e2];simp
    have p2l:p2.length < F.edges.length:=by rw [e2];simp
    have al2:=flat_len (l:=p2) (len_inE d p' c)
    obtain ⟨acc2,ha2⟩:∃ acc2,acc2=acc ++ p2.flatMap (inE d p' c):=⟨_,rfl⟩
    have al3:acc2.length ≤ 601600:=by rw [ha2,List.length_append];exact Nat.add_le_add al (Nat.le_trans al2 (Nat.mul_le_mul_right 6 (Nat.le_trans (Nat.le_of_lt p2l) w5)))
    have hN2:N2 [some (.lst (C.map fD)),some (.ref i),some (.ref j),some (.ref h.length),some (tkD [f,p',d]),some (nD f),x6,some (nD p'),some (nD d),some (eD E)] (fz j o P (h ++ [.lst ((acc2 ++ inE d p' c E).map pkD)])):=hN2 _ _ ⟨_,rfl,by rw [List.flatMap_append,ha2];simp⟩
    rw [← ha2]
    have eP:(fz j o P (h ++ [.lst (acc2.map pkD)]))[j]?=some (.dT (some o) (tbD P)):=fz_get (app_get ej)
    have eL:(fz j o P (h ++ [.lst (acc2.map pkD)]))[h.length]?=some (.lst (acc2.map pkD)):=fz_app ej
    subst hT2;subst hB2
    refine name_in ?_
    (try dsimp only);refine if_intro fun A1 B1 hA hB=>?_
    obtain ⟨_,_,_,_,o5⟩:=w6 E hE
    obtain ⟨ep,eq,ec,ek⟩:=E
    cases ek with
    |step t =>
     have:inE d p' c ⟨ep,eq,ec,.step t⟩=[]:=rfl
     rw [this,List.append_nil] at hN2
     simp only [eD,VV]
     subst hB
     simp only [VV]
     exact hN2
    |call g ti t oo =>
     obtain ⟨G,hG,t1,t2,_⟩:=o5
     simp only [eD,VV]
     rw [beqN]
     by_cases hp:ep=p'
     ·have ee:inE d p' c ⟨ep,eq,ec,.call g ti t oo⟩=(facts6 (ti.getD d 0)).map fun e=>([g,0] ++ [e],c + ec):=if_pos hp
      rw [ee] at hN2
      subst hp
      simp only [VV]
      subst hA
      have lt:=len6 (ti.getD d 0)
      simp only [eL,tD_ix _ t1 h3,VV]
      refine ⟨_,rfl,?_⟩
      simp only [VV]
      refine ⟨by rw [List.length_map];exact Nat.le_trans lt (by decide),?_⟩
      refine comp1n (fun e=>pkD ([g,0,e],c + ec)) Src.ok_nil none (fun x hx K k=>?_) ?_
      ·rw [pk3] at k
       simp only [VV]
       refine get_tb (k:=[f,ep,d]) eP ?_
       rw [hc]
       refine ⟨_,rfl,?_⟩
       simp only [VV]
       exact k
      ·simp only [eL,fz_put ej,VV]
       refine ⟨by rw [List.length_map,List.length_map];exact Nat.le_trans (Nat.add_le_add al3 lt) (by decide),?_⟩
       rw [List.map_append,List.map_map] at hN2
       exact hN2
     ·have ee:inE d p' c ⟨ep,eq,ec,.call g ti t oo⟩=[]:=if_neg hp
      rw [ee,List.append_nil] at hN2
      simp only [hp,VV]
      subst hB
      simp only [VV]
      exact hN2
   ·rintro δ h' ⟨x9,rfl,rfl⟩
    exact hN1 ..
  ·rintro δ h' ⟨x4,x5,x6,x7,x8,x9,rfl,rfl⟩
   subst hN
   simp only [VV]
   exact Dr.dropL (g1:=[]) (g2:=[]) (nrDs_map nrD_pkD _) rfl q
theorem ok_q12{f:Addr}{fd:FuncData}(F:Fun K "_law_outer" "_law_outer" s_q12 f fd)(T:Txt P w K mg)(C_q6:Cal P w K mg base 1 "_law_facts" ["_law_mask"] (spD K 1 S_q6)):FnOk P w K mg base CX0 2 f fd ["_law_chart_here","_law_inside","_law_places"] (spD K 3 S_q12) :=
 fn_okD (k:=1) (b:=b_q12) F sc_q12 (fun cdv A outer s H E hr=>by
  refine ss_cons ?_ ?_
  ·refine s_set (i:=3) ?_ ?_ ?_ ?_
   ·exact sc_q12.nd
   ·exact rfl
   ·exact Or.inl rfl
   exact se_t (sn_lst sa_nil)
  refine ss_cons ?_ ?_
  ·exact s_forI PassesOwn.never rfl (si_dict (sv 1)) (sg_name (i:=4) sc_q12.nd rfl (Or.inr rfl)) (ss_cons (s_asg (sv 4) (sg_tup rfl (sgs_cons (sg_name (i:=5) sc_q12.nd rfl (Or.inl rfl)) (sgs_cons (sg_name (i:=6) sc_q12.nd rfl (Or.inl rfl)) (sgs_cons (sg_name (i:=7) sc_q12.nd rfl (Or.inl rfl)) (sgs_cons (sg_name (i:=8) sc_q12.nd rfl (Or.inl rfl)) sgs_nil))))))     (ss_one (s_if (st_cmp (ok_inD hr.units) (se_tup (sa_cons (sv 5) (sa_cons se_int (sa_cons (sv 6) sa_nil)))) (sv 2) rfl) (ss_one (s_expr (se_append (sv 3) (sa_cons (se_tup (sa_cons (se_tup (sa_cons (sv 5) (sa_cons (sv 7) (sa_cons (sv 8) sa_nil)))) (sa_cons (se_op ok_plus (se_dget hr.units (sv 2) (se_tup (sa_cons (sv 5) (sa_cons se_int (sa_cons (sv 6) sa_nil)))) (fun _ _=>rfl)) (se_dget hr.units (sv 1) (sv 4) (fun _ _=>rfl))) sa_nil))) sa_nil)))) ss_nil)))
  refine ss_cons ?_ ?_
  ·exact s_forI PassesOwn.never rfl (si_dict (sv 2)) (sg_name (i:=4) sc_q12.nd rfl (Or.inr rfl)) (ss_cons (s_asg (sv 4) (sg_tup rfl (sgs_cons (sg_name (i:=5) sc_q12.nd rfl (Or.inl rfl)) (sgs_cons (sg_name (i:=7) sc_q12.nd rfl (Or.inl rfl)) (sgs_cons (sg_name (i:=8) sc_q12.nd rfl (Or.inl rfl)) sgs_nil)))))     (ss_one (s_for PassesOwn.never rfl (si_seq (se_ix ok_ix (se_ix ok_ix (sv 0) (sv 5) (fun _ _=>rfl)) se_int (fun _ _=>rfl))) (sg_name (i:=9) sc_q12.nd rfl (Or.inr rfl)) (ss_one (s_if (st_w (sw_and (st_cmp (ok_eq hr.units) (se_ix ok_ix (sv 9) se_int (fun _ _=>rfl)) se_str (nomark _)) (sw_and1 (st_cmp (ok_eq hr.units) (se_ix ok_ix (sv 9) se_int (fun _ _=>rfl)) (sv 7) (nomark _))))) (ss_one (s_expr (se_extend (sv 3) (sa_cons (se_v (sn_comp rfl (N':= ["_law_e","_law_edge_here","_law_places","_law_key"]) (js:=[none,some 9,some 2,some 4]) ⟨rfl,by decide +kernel,rfl,rfl,rfl⟩ (si_seq (se_cal C_q6 (hr.mono (by decide)) rfl (sa_cons (se_ix ok_ix (se_ix ok_ix (sv 9) se_int (fun _ _=>rfl)) (sv 8) (fun _ _=>rfl)) sa_nil))) (fun s0 H0 fp=>⟨(sg_name (i:=0) (show (["_law_e","_law_edge_here","_law_places","_law_key"]:List Str).Nodup by decide +kernel) rfl (Or.inl rfl)),sf_nil,(se_tup (sa_cons (se_tup (sa_cons (se_ix ok_ix (sv 1) se_int (fun _ _=>rfl)) (sa_cons se_int (sa_cons (sv 0) sa_nil)))) (sa_cons (se_op ok_plus (se_dget hr.units (sv 2) (sv 3) (fun _ _=>rfl)) (se_ix ok_ix (sv 1) se_int (fun _ _=>rfl))) sa_nil)))⟩))) sa_nil)))) ss_nil)))))
  refine ss_one ?_
  refine s_ret ?_
  exact sv 3) imp_q12
noncomputable def b_q1:DS:=(dSeq (dAsg (dV (dSortT (dCons (dVar 0) dNil))) (dName 4))
  (dSeq (dAsg (dOp pIx (dVar 4) (dCal S_q10 (dCons (dVar 2) (dCons (dCB pLen (dCons (dVar 4) dNil)) dNil)))) (dName 5))
  (dSeq (dAsg (dOp pIx (dV (dCons (dC (.int 1)) (dCons (dC (.int 1)) (dCons (dOp pPlus (dC (.int 1)) (dCal S_q10 (dCons (dVar 2) (dCons (dC (.int 9)) dNil)))) (dCons (dOp pPow (dC (.int 10)) (dC (.int 18))) dNil))))) (dCal S_q10 (dCons (dVar 2) (dCons (dC (.int 4)) dNil)))) (dName 6))
  (dIfS (dTst (dOp (pEq false) (dVar 3) (dC (.int 0)))) (dDPut (dVar 0) (dVar 5) (dOp pPlus (dDGet (dVar 0) (dVar 5)) (dVar 6))) (dIfS (dTst (dOp (pEq false) (dVar 3) (dC (.int 1)))) (dDrop (dDPop (dVar 0) (dCons (dVar 5) dNil))) (dIfS (dTst (dOp (pEq false) (dVar 3) (dC (.int 2)))) (dDPut (dVar 0) (dVar 5) (dCB pMax (dCons (dC (.int 0)) (dCons (dOp pSub (dDGet (dVar 0) (dVar 5)) (dVar 6)) dNil)))) (dSeq (dAsg (dOp pIx (dVar 1) (dCal S_q10 (dCons (dVar 2) (dCons (dCB pLen (dCons (dVar 1) dNil)) dNil)))) (dName 5))
  (dDPut (dVar 0) (dVar 5) (dCB pMin (dCons (dDGet2 (dVar 0) (dVar 5) (dVar 6)) (dCons (dVar 6) dNil)))))))))))
theorem kN_ik{k:Kt}(h:k ≠ []):IK (kN k):=by
 cases k with
 |nil=>exact absurd rfl h
 |cons a r=>exact ⟨(a:Int),r.map fun n:Nat=>(n:Int),by show (Sum.inl (a:Int):Key) :: kN r=_;unfold kN;rw [List.map_map];rfl⟩
theorem keys_back{m:Ct}:∀ {ks:List (List Key)},(∀ k ∈ ks,∃ kv ∈ tbD m,k=kv.1)→∃ so:List Kt,ks=so.map kN∧∀ k ∈ so,k ∈ keys m
 |[],_=>⟨[],rfl,fun _ h=>nomatch h⟩
 |k :: ks,h=>by
  obtain ⟨so,e,hs⟩:=keys_back (ks:=ks) fun k hk=>h k (List.mem_cons_of_mem _ hk)
  obtain ⟨kv,hkv,rfl⟩:=h k List.mem_cons_self
  obtain ⟨x,hx,rfl⟩:=List.mem_map.mp hkv
  refine ⟨x.1 :: so,by rw [e];rfl,fun y hy=>?_⟩
  rcases List.mem_cons.mp hy with z | z
  ·rw [z];exact List.mem_map.mpr ⟨x,hx,rfl⟩
  ·exact hs y z
theorem map_keyD(so:List Kt):(so.map kN).map keyD=so.map tkD:=by rw [List.map_map];exact List.map_congr_left fun x _=>keyD_kN x
noncomputable def S_q1:DSp:=fun ds h Q=>∃ (V:Kt→Prop) (i s way:Nat) (s0:Int) (m:Ct) (ks:List Kt),ds=[.ref i,.lst (ks.map tkD),.ref s,nD way]∧h[i]?=some (.dT none (tbD m))∧h[s]?=some (.lst [.int s0])∧i ≠ s∧TOk V m∧(∀ k,V k→k ≠ [])∧m ≠ []∧m.length ≤ 1000∧ks ≠ []∧(∀ k ∈ ks,V k)∧∀ (m':Ct) (s':Int),TOk V m'→(way < 2→Up m m')→Q .non ((h.set i (.dT none (tbD m'))).set s (.lst [.int s']))
theorem imp_q1:∀ ds h Q,S_q1 ds h Q→runD 7 b_q1 ds h Q:=by
 rintro ds h Q ⟨V,i,s,way,s0,m,ks,rfl,ei,es,his,tk,vn,mn,lm,kn,kv,q⟩
 have q':∀ (m':Ct) (s':Int),TOk V m'→(way < 2→Up m m')→Q .non ((h.set s (.lst [.int s'])).set i (.dT none (tbD m'))):=fun m' s' a b=>by rw [List.set_comm _ _ (Ne.symm his)];exact q m' s' a b
 have mp:0 < m.length:=List.length_pos_iff.mpr mn
 have kp:0 < ks.length:=List.length_pos_iff.mpr kn
 have ei':∀ s':Int,(h.set s (.lst [.int s']))[i]?=some (.dT none (tbD m)):=fun s'=>by rw [List.getElem?_set_ne (Ne.symm his)];exact ei
 delta runD b_q1;simp only [List.map_cons,List.map_nil,List.cons_append,List.nil_append,List.length_cons,List.length_nil,List.replicate,Nat.reduceSub,Nat.reduceAdd,Nat.zero_add,Nat.sub_self]
 (try dsimp only);refine seq_intro fun N hN=>?_
 simp only [VV]
 refine ⟨i,none,tbD m,rfl,ei,fun kv hkv=>?_,fun ks' hl hm=>?_⟩
 ·obtain ⟨x,hx,rfl⟩:=List.mem_map.mp hkv
  exact kN_ik (vn _ (tk.all _ (List.mem_map.mpr ⟨x,hx,rfl⟩)))
 obtain ⟨so,rfl,hso⟩:=keys_back hm
 rw [List.length_map,tb_len] at hl
 rw [map_keyD]
 subst hN
 (try dsimp only);refine seq_intro fun N hN=>?_
 simp only [VV]
 rw [List.length_map]
 refine ⟨s,s0,_,rfl,es,posN (hl ▸ mp),fun s1 r hr=>?_⟩
 have rl:r < so.length:=ltN hr
 have ex:atI (so.map tkD) (r:Int)=some (tkD so[r]):=by rw [atN,List.getElem?_map,List.getElem?_eq_getElem rl];rfl
 have hk:=hso _ (List.getElem_mem rl)
 obtain ⟨c,hc⟩:=look_key.mp hk
 generalize so[r]=key at ex hk hc
 simp only [ex,VV]
 subst hN
 (try dsimp only);refine seq_intro fun N hN=>?_
 simp only [VV]
 refine ⟨s,s1,9,rfl,get_set es,by decide,fun s2 r2 hr2=>?_⟩
 rw [set_set]
 simp only [VV]
 refine ⟨⟨by decide,by decide,by decide⟩,s,s2,4,rfl,get_set es,by decide,fun s3 r3 hr3=>?_⟩
 rw [set_set]
 obtain ⟨mu,hmu,emu⟩:∃ mu:Nat,1 ≤ mu∧atI [D.int 1,D.int 1,D.int (1 + (r2:Int)),D.int (10 ^ (18:Int).toNat)] (r3:Int)=some (nD mu):=by
  have:r3=0∨r3=1∨r3=2∨r3=3:=by first | decide | omega
  rcases this with rfl | rfl | rfl | rfl
  ·exact ⟨1,by decide,rfl⟩
  ·exact ⟨1,by decide,rfl⟩
  ·exact ⟨1 + r2,Nat.le_add_right ..,by rw [nD_add];rfl⟩
  ·exact ⟨10 ^ 18,by decide,rfl⟩
 simp only [emu,VV]
 have en:=ei' s3
 subst hN
 (try dsimp only);refine if_intro fun A1 B1 hA hB=>?_
 simp only [VV]
 have b0:((way:Int) == 0)=decide (way=0):=beqN way 0
 rw [b0]
 by_cases w0:way=0
 ·rw [if_pos (decide_eq_true w0)]
  subst hA
  simp only [VV]
  refine get_tb en ?_
  rw [hc]
  refine ⟨_,rfl,?_⟩
  simp only [VV]
  rw [← nD_add]
  refine putH_tb en (Nat.lt_of_le_of_lt lm (by decide)) ?_
  exact q' _ _ (tk.put (tk.all _ hk)) fun _=>Up.put hc (Nat.lt_add_of_pos_right hmu)
 ·rw [if_neg (by rw [decide_eq_false w0];exact Bool.false_ne_true)]
  subst hB
  (try dsimp only);refine if_intro fun A1 B1 hA hB=>?_
  simp only [VV]
  have b1:((way:Int) == 1)=decide (way=1):=beqN way 1
  rw [b1]
  by_cases w1:way=1
  ·rw [if_pos (decide_eq_true w1)]
   subst hA
   simp only [VV]
   refine ⟨isDD_tb en,fun i' hi'=>by cases hi';exact ⟨_,en⟩,i,tbD m,kN key,nD c,rfl,by rw [keyD_kN],en,by rw [val_tb,hc];rfl,?_⟩
   rw [cut_tb]
   exact q' _ _ tk.cut fun _=>Up.cut hc
  ·rw [if_neg (by rw [decide_eq_false w1];exact Bool.false_ne_true)]
   have nw:¬ way < 2:=by first | decide | omega
   subst hB
   (try dsimp only);refine if_intro fun A1 B1 hA hB=>?_
   simp only [VV]
   refine iteB (fun _=>?_) fun _=>?_
   ·subst hA
    simp only [VV]
    refine get_tb en ?_
    rw [hc]
    refine ⟨_,rfl,?_⟩
    simp only [VV]
    obtain ⟨v,hv⟩:∃ v:Nat,(if (c:Int) - (mu:Int) > 0 then (c:Int) - (mu:Int) else 0)=(v:Int):=by
     by_cases z:(c:Int) - (mu:Int) > 0
     ·exact ⟨((c:Int) - (mu:Int)).toNat,by rw [if_pos z];exact (Int.toNat_of_nonneg (Int.le_of_lt z)).symm⟩
     ·exact ⟨0,if_neg z⟩
    rw [hv]
    refine putH_tb (v:=v) en (Nat.lt_of_le_of_lt lm (by decide)) ?_
    exact q' _ _ (tk.put (tk.all _ hk)) fun z=>absurd z nw
   ·subst hB
    (try dsimp only);refine seq_intro fun N hN=>?_
    simp only [VV]
    rw [List.length_map]
    refine ⟨s,s3,_,rfl,get_set es,posN kp,fun s4 r4 hr4=>?_⟩
    rw [set_set]
    have rl4:r4 < ks.length:=ltN hr4
    have ex4:atI (ks.map tkD) (r4:Int)=some (tkD ks[r4]):=by rw [atN,List.getElem?_map,List.getElem?_eq_getElem rl4];rfl
    have hk4:=kv _ (List.getElem_mem rl4)
    generalize ks[r4]=key4 at ex4 hk4
    simp only [ex4,VV]
    have en4:=ei' s4
    subst hN
    simp only [VV]
    refine ⟨isDD_tb en4,get_tb en4 ?_⟩
    have fin:∀ v:Nat,putH (.ref i) (tkD key4) (.int (v:Int)) (h.set s (.lst [.int s4])) fun h4=>Q .non h4:=fun v=>putH_tb (v:=v) en4 (Nat.lt_of_le_of_lt lm (by decide)) (q' _ _ (tk.put hk4) fun z=>absurd z nw)
    cases w:look m key4 with
    |none =>
     simp only [VV]
     have:¬ (mu:Int) < (mu:Int):=Int.lt_irrefl _
     simp only [this,VV]
     exact fin mu
    |some c4 =>
     simp only [VV]
     by_cases z:(mu:Int) < (c4:Int)
     ·simp only [z,VV];exact fin mu
     ·simp only [z,VV];exact fin c4
theorem ok_q1{f:Addr}{fd:FuncData}(F:Fun K "_law_changed" "_law_changed" s_q1 f fd)(T:Txt P w K mg)(C_q10:Cal P w K mg base 1 "_law_next" ["_law_state","_law_many"] (spD K 2 S_q10)):FnOk P w K mg base CX0 2 f fd ["_law_known","_law_all_keys","_law_state","_law_way"] (spD K 4 S_q1) :=
 fn_ok (k:=1) (b:=b_q1) F sc_q1 (fun cdv A outer s H E hr=>by
  refine ss_cons ?_ ?_
  ·refine s_set (i:=4) ?_ ?_ ?_ ?_
   ·exact sc_q1.nd
   ·exact rfl
   ·exact Or.inl rfl
   refine se_v ?_
   exact sn_sortT rfl rfl T.b_sorted (sa_cons (sv 0) sa_nil)
  refine ss_cons ?_ ?_
  ·refine s_set (i:=5) ?_ ?_ ?_ ?_
   ·exact sc_q1.nd
   ·exact rfl
   ·exact Or.inl rfl
   exact se_ix ok_ix (sv 4) (se_cal C_q10 (hr.mono (by decide)) rfl (sa_cons (sv 2) (sa_cons (se_callB ok_len rfl T.b_len PySem.boot_len (sa_cons (sv 4) sa_nil)) sa_nil))) (fun _ _=>rfl)
  refine ss_cons ?_ ?_
  ·refine s_set (i:=6) ?_ ?_ ?_ ?_
   ·exact sc_q1.nd
   ·exact rfl
   ·exact Or.inl rfl
   exact se_ix ok_ix (se_v (sn_lst (sa_cons se_int (sa_cons se_int (sa_cons (se_op ok_plus se_int (se_cal C_q10 (hr.mono (by decide)) rfl (sa_cons (sv 2) (sa_cons se_int sa_nil)))) (sa_cons (se_op ok_pow se_int se_int) sa_nil)))))) (se_cal C_q10 (hr.mono (by decide)) rfl (sa_cons (sv 2) (sa_cons se_int sa_nil))) (fun _ _=>rfl)
  refine ss_one ?_
  refine s_if ?_ ?_ ?_
  ·exact st_cmp (ok_eq hr.units) (sv 3) se_int (nomark _)
  ·refine ss_one ?_
   exact s_dput hr.units (sv 0) (sv 5) (se_op ok_plus (se_dget hr.units (sv 0) (sv 5) (fun _ _=>rfl)) (sv 6))
  refine ss_one ?_
  refine s_if ?_ ?_ ?_
  ·exact st_cmp (ok_eq hr.units) (sv 3) se_int (nomark _)
  ·refine ss_one ?_
   refine s_expr ?_
   exact se_dpop hr.units (sv 0) (sa_cons (sv 5) sa_nil)
  refine ss_one ?_
  refine s_if ?_ ?_ ?_
  ·exact st_cmp (ok_eq hr.units) (sv 3) se_int (nomark _)
  ·refine ss_one ?_
   exact s_dput hr.units (sv 0) (sv 5) (se_callB (ok_max rfl) rfl T.b_max PyProof.Rows.boot_max (sa_cons se_int (sa_cons (se_op ok_sub (se_dget hr.units (sv 0) (sv 5) (fun _ _=>rfl)) (sv 6)) sa_nil)))
  refine ss_cons ?_ ?_
  ·refine s_set (i:=5) ?_ ?_ ?_ ?_
   ·exact sc_q1.nd
   ·exact rfl
   ·exact Or.inl rfl
   exact se_ix ok_ix (sv 1) (se_cal C_q10 (hr.mono (by decide)) rfl (sa_cons (sv 2) (sa_cons (se_callB ok_len rfl T.b_len PySem.boot_len (sa_cons (sv 1) sa_nil)) sa_nil))) (fun _ _=>rfl)
  refine ss_one ?_
  exact s_dput hr.units (sv 0) (sv 5) (se_callB (ok_min rfl) rfl T.b_min PyProof.Rows.boot_min (sa_cons (se_dget2 hr.units (sv 0) (sv 5) (sv 6) ⟨rfl,rfl,rfl,rfl⟩) (sa_cons (sv 6) sa_nil)))) imp_q1
noncomputable def b_q28:DS:=(dSeq (dAsg (dOp pIx (dVar 3) (dC (.int 4))) (dName 6))
  (dSeq (dFor (dISeq (dCal S_q22 (dCons (dOp pIx (dOp pIx (dVar 3) (dC (.int 5))) (dVar 4)) dNil))) (dName 7) (dFor (dIRange (dCons (dOp pIx (dOp pIx (dVar 0) (dVar 6)) (dC (.int 1))) dNil)) (dName 8) (dSeq (dAsg (dTup (dCons (dVar 6) (dCons (dVar 7) (dCons (dCal S_q21 (dCons (dVar 0) (dCons (dVar 6) dNil))) (dCons (dVar 8) dNil))))) (dName 9))
  (dIfS (dAnd (dTst (dOp (pInD false) (dVar 9) (dVar 1))) (dNot (dTr (dCal S_q18 (dCons (dVar 1) (dCons (dVar 2) (dCons (dOp pIx (dOp pIx (dVar 3) (dC (.int 6))) (dVar 8)) (dCons (dOp pPlus (dVar 5) (dDGet (dVar 1) (dVar 9))) dNil)))))))) (dRet (dC (.bl false))) dNext))))
  (dRet (dC (.bl true)))))
noncomputable def S_q28:DSp:=fun ds h Q=>∃ (C:Chart) (i d sp g:Nat) (z:Option Obj) (I:Ct) (bh:Kt) (E:Edge) (F G:Fn) (ti t o:List Nat),ds=[cD C,.ref i,tkD bh,eD E,nD d,nD sp]∧h[i]?=some (.dT z (tbD I))∧E.k = .call g ti t o∧C[g]?=some G∧tOk ti F.facts G.facts∧tOk t G.facts F.facts∧F.facts ≤ 6∧G.facts ≤ 6∧1 ≤ G.places∧bh ≠ []∧bh.length ≤ 10∧d < F.facts∧∀ b,(b=true ↔ ∀ b' ∈ facts6 (ti.getD d 0),∀ y,y < G.facts→∀ x ∈ shortP I t g (G.places - 1) y b' bh sp,Met I x)→Q (.bl b) h
theorem imp_q28:∀ ds h Q,S_q28 ds h Q→runD 10 b_q28 ds h Q:=by
 rintro ds h Q ⟨C,i,d,sp,g,z,I,bh,E,F,G,ti,t,o,rfl,ei,hk,hG,t1,t2,f6,g6,gp,hb,hl,hd,q⟩
 obtain ⟨ep,eq,ec,ek⟩:=E
 have hk:ek = .call g ti t o:=hk
 subst hk
 delta runD b_q28;simp only [List.map_cons,List.map_nil,List.cons_append,List.nil_append,List.length_cons,List.length_nil,List.replicate,Nat.reduceSub,Nat.reduceAdd,Nat.zero_add,Nat.sub_self]
 (try dsimp only);refine seq_intro fun N hN=>?_
 simp only [eD,VV]
 subst hN
 (try dsimp only);refine seq_intro fun N hN=>?_
 have m64:=bits64 (d:=d) t1 g6
 refine for_intro fun T B hT hB=>?_
 simp only [tD_ix h t1 hd,VV]
 refine ⟨_,rfl,Nat.lt_trans m64 (by decide),?_⟩
 rw [facts_six m64]
 simp only [VV]
 refine forL_map (fun p δ h'=>h'=h∧(∃ x7 x8 x9,δ=[some (cD C),some (.ref i),some (tkD bh),some (.tup [.str "call",nD ep,nD eq,nD ec,nD g,tD ti,tD t,tD o]),some (nD d),some (nD sp),some (nD g),x7,x8,x9])∧∀ b' ∈ p,∀ y,y < G.facts→∀ x ∈ shortP I t g (G.places - 1) y b' bh sp,Met I x) ⟨rfl,⟨_,_,_,rfl⟩,fun _ z=>nomatch z⟩ (fun _ _ _ _=>Src.ok_nil) ?_ ?_
 ·rintro p b' r δ h' N1 e ⟨rfl,⟨x7,x8,x9,rfl⟩,hp⟩ hN1
  have hb':b' ∈ facts6 (ti.getD d 0):=by rw [e];simp
  subst hT;subst hB
  refine name_in ?_
  refine for_intro fun T B hT hB=>?_
  simp only [cD,ix_chart C hG,fD,VV]
  refine ⟨rng6 g6,?_⟩
  rw [rangeD_map,Int.toNat_natCast]
  refine forL_map (fun p2 δ h''=>h''=h'∧(∃ x8 x9,δ=[some (.lst (C.map fD)),some (.ref i),some (tkD bh),some (.tup [.str "call",nD ep,nD eq,nD ec,nD g,tD ti,tD t,tD o]),some (nD d),some (nD sp),some (nD g),some (nD b'),x8,x9])∧∀ y ∈ p2,∀ x ∈ shortP I t g (G.places - 1) y b' bh sp,Met I x) ⟨rfl,⟨_,_,rfl⟩,fun _ z=>nomatch z⟩ (fun _ _ _ _=>Src.ok_nil) ?_ ?_
  ·rintro p2 y r2 δ h'' N2 e2 ⟨rfl,⟨x8,x9,rfl⟩,hp2⟩ hN2
   have hy:=(range_split e2).2
   subst hT;subst hB
   rw [Int.zero_add]
   refine name_in ?_
   (try dsimp only);refine seq_intro fun N hN=>?_
   simp only [VV]
   refine ⟨cD C,C,g,G,rfl,ChD.of _ C,hG,?_⟩
   simp only [VV]
   rw [show (G.places:Int) - 1=((G.places - 1:Nat):Int) by first | decide | omega]
   subst hN
   simp only [VV]
   refine get_tb (k:=[g,b',G.places - 1,y]) ei ?_
   have es:shortP I t g (G.places - 1) y b' bh sp=match look I [g,b',G.places - 1,y] with | none=>[] | some c'=>(facts6 (t.getD y 0)).map fun e=>(bh ++ [e],sp + c'):=rfl
   cases w:look I [g,b',G.places - 1,y] with
   |none =>
    simp only [Option.isSome_none,VV]
    refine hN2 _ _ ⟨rfl,⟨_,_,rfl⟩,all_snoc hp2 fun x hx=>?_⟩
    rw [es,w] at hx;cases hx
   |some c0 =>
    rw [w] at es
    have n64:=bits64 (d:=y) t2 f6
    simp only [Option.isSome_some,tD_ix h'' t2 hy,VV]
    refine get_tb (k:=[g,b',G.places - 1,y]) ei ?_
    rw [w]
    refine ⟨_,rfl,?_⟩
    simp only [VV]
    refine ⟨i,z,I,bh,t.getD y 0,sp + c0,by rw [nD_add],ei,hb,hl,n64,fun b hbb=>?_⟩
    simp only [VV]
    cases b with
    |true =>
     simp only [VV]
     refine hN2 _ _ ⟨rfl,⟨_,_,rfl⟩,all_snoc hp2 fun x hx=>?_⟩
     rw [es] at hx
     obtain ⟨e,he,rfl⟩:=List.mem_map.mp hx
     exact hbb.mp rfl e he
    |false =>
     simp only [VV]
     refine q _ ⟨fun z=>(nomatch z),fun z=>?_⟩
     have:=hbb.mpr fun e he=>z b' hb' y hy _ (by rw [es];exact List.mem_map.mpr ⟨e,he,rfl⟩)
     cases this
  ·rintro δ h'' ⟨rfl,⟨x8,x9,rfl⟩,hp2⟩
   exact hN1 _ _ ⟨rfl,⟨_,_,_,rfl⟩,all_snoc hp fun y hy=>hp2 y (List.mem_range.mpr hy)⟩
 ·rintro δ h' ⟨rfl,⟨x7,x8,x9,rfl⟩,hp⟩
  subst hN
  simp only [VV]
  exact q _ ⟨fun _=>hp,fun _=>rfl⟩
theorem ok_q28{f:Addr}{fd:FuncData}(F:Fun K "shorts_are_told" "shorts_are_told" s_q28 f fd)(T:Txt P w K mg)(C_q22:Cal P w K mg base 1 "facts_in" ["mask"] (spD K 1 S_q22))(C_q21:Cal P w K mg base 1 "exit_of" ["chart","f"] (spD K 2 S_q21))(C_q18:Cal P w K mg base 2 "are_told" ["costs","behind","mask","cost"] (spD K 4 S_q18)):FnOk P w K mg base CX0 3 f fd ["chart","inside","behind","edge","d","spent"] (spD K 6 S_q28) :=
 fn_ok (k:=2) (b:=b_q28) F sc_q28 (fun cdv A outer s H E hr=>by
  refine ss_cons ?_ ?_
  ·refine s_set (i:=6) ?_ ?_ ?_ ?_
   ·exact sc_q28.nd
   ·exact rfl
   ·exact Or.inl rfl
   exact se_ix ok_ix (sv 3) se_int (fun _ _=>rfl)
  refine ss_cons ?_ ?_
  ·refine s_for ?_ ?_ ?_ ?_ ?_
   ·exact PassesOwn.never
   ·exact rfl
   ·exact si_seq (se_cal C_q22 (hr.mono (by decide)) rfl (sa_cons (se_ix ok_ix (se_ix ok_ix (sv 3) se_int (fun _ _=>rfl)) (sv 4) (fun _ _=>rfl)) sa_nil))
   ·exact sg_name (i:=7) sc_q28.nd rfl (Or.inl rfl)
   refine ss_one ?_
   refine s_for ?_ ?_ ?_ ?_ ?_
   ·exact PassesOwn.never
   ·exact rfl
   ·exact si_range1 rfl T.b_range (sa_cons (se_ix ok_ix (se_ix ok_ix (sv 0) (sv 6) (fun _ _=>rfl)) se_int (fun _ _=>rfl)) sa_nil)
   ·exact sg_name (i:=8) sc_q28.nd rfl (Or.inl rfl)
   refine ss_cons ?_ ?_
   ·refine s_set (i:=9) ?_ ?_ ?_ ?_
    ·exact sc_q28.nd
    ·exact rfl
    ·exact Or.inl rfl
    refine se_tup (n:=4) ?_
    refine sa_cons ?_ ?_
    ·exact sv 6
    refine sa_cons ?_ ?_
    ·exact sv 7
    refine sa_cons ?_ ?_
    ·exact se_cal C_q21 (hr.mono (by decide)) rfl (sa_cons (sv 0) (sa_cons (sv 6) sa_nil))
    refine sa_cons ?_ ?_
    ·exact sv 8
    exact sa_nil
   refine ss_one ?_
   refine s_if ?_ ?_ ?_
   ·exact st_w (sw_and (st_cmp (ok_inD hr.units) (sv 9) (sv 1) rfl) (sw_and1 (st_not (st_truth (se_cal C_q18 (hr.mono (by decide)) rfl (sa_cons (sv 1) (sa_cons (sv 2) (sa_cons (se_ix ok_ix (se_ix ok_ix (sv 3) se_int (fun _ _=>rfl)) (sv 8) (fun _ _=>rfl)) (sa_cons (se_op ok_plus (sv 5) (se_dget hr.units (sv 1) (sv 9) (fun _ _=>rfl))) sa_nil)))))))))
   ·refine ss_one ?_
    refine s_ret ?_
    exact se_bl
   exact ss_nil
  refine ss_one ?_
  refine s_ret ?_
  exact se_bl) imp_q28
noncomputable def b_q23:DS:=(dSeq (dForI (dIItems (dVar 1)) (dUnp 2 (dGCons (dName 2) (dGCons (dName 3) dGNil))) (dFor (dISeq (dCal S_q20 (dCons (dVar 0) (dCons (dOp pIx (dVar 2) (dC (.int 0))) (dCons (dOp pIx (dVar 2) (dC (.int 1))) dNil))))) (dUnp 2 (dGCons (dName 4) (dGCons (dName 5) dGNil))) (dIfS (dAnd (dTst (dOp (pEq false) (dOp pIx (dVar 5) (dC (.int 0))) (dC (.str "call")))) (dNot (dTr (dCal S_q18 (dCons (dVar 1) (dCons (dTup (dCons (dOp pIx (dVar 5) (dC (.int 4))) (dCons (dC (.int 0)) dNil))) (dCons (dOp pIx (dOp pIx (dVar 5) (dC (.int 5))) (dOp pIx (dVar 2) (dC (.int 2)))) (dCons (dOp pPlus (dVar 3) (dOp pIx (dVar 5) (dC (.int 3)))) dNil)))))))) (dRet (dC (.bl false))) dNext)))
  (dRet (dC (.bl true))))
theorem mem_from{F:Fn}{p:Nat}{x:Edge×Nat}(h:x ∈ fromE F p):x.1 ∈ F.edges∧x.1.p=p:=by
 obtain ⟨h1,h2⟩:=List.mem_filter.mp h
 exact ⟨List.mem_of_getElem? (List.mem_zipIdx_iff_getElem?.mp h1),of_decide_eq_true h2⟩
theorem from_mem{F:Fn}{p:Nat}{E:Edge}(h:E ∈ F.edges)(hp:E.p=p):∃ k,(E,k) ∈ fromE F p:=by
 obtain ⟨k,hk,e⟩:=List.getElem_of_mem h
 exact ⟨k,List.mem_filter.mpr ⟨List.mem_zipIdx_iff_getElem?.mpr (by rw [List.getElem?_eq_getElem hk,e]),decide_eq_true hp⟩⟩
noncomputable def S_q23:DSp:=fun ds h Q=>∃ (C:Chart) (i:Nat) (P:Ct),ds=[cD C,.ref i]∧h[i]?=some (.dT none (tbD P))∧WF C∧TOk (K3 C) P∧∀ b,(b=true ↔ ∀ k ∈ keys P,∀ x ∈ in1 C P k,Met P x)→Q (.bl b) h
theorem imp_q23:∀ ds h Q,S_q23 ds h Q→runD 6 b_q23 ds h Q:=by
 rintro ds h Q ⟨C,i,P,rfl,ei,wf,tk,q⟩
 delta runD b_q23;simp only [List.map_cons,List.map_nil,List.cons_append,List.nil_append,List.length_cons,List.length_nil,List.replicate,Nat.reduceSub,Nat.reduceAdd,Nat.zero_add,Nat.sub_self]
 (try dsimp only);refine seq_intro fun N hN=>?_
 refine forI_intro fun T B hT hB=>?_
 refine forI_by pkD (src_items rfl ei) (fun p δ h'=>h'=h∧(∃ x2 x3 x4 x5,δ=[some (cD C),some (.ref i),x2,x3,x4,x5])∧∀ y ∈ p,∀ x ∈ in1 C P y.1,Met P x) ⟨rfl,⟨_,_,_,_,rfl⟩,fun _ z=>nomatch z⟩ (fun p δ h' hp=>by rw [hp.1];exact ei) ?_ ?_
 ·rintro p x r δ h' o N1 X1 R X2 e ⟨rfl,⟨x2,x3,x4,x5,rfl⟩,hp⟩ hN1 hR
  obtain ⟨f,p',d,F,ek,hc,hF,h2,h3⟩:=look3 tk e
  have kin:=key_in e
  obtain ⟨k,c⟩:=x
  have ek:k=[f,p',d]:=ek
  have hc:look P [f,p',d]=some c:=hc
  subst ek
  have eP:(fz i o P h')[i]?=some (.dT (some o) (tbD P)):=fz_get ei
  have ea:in1 C P [f,p',d]=F.edges.flatMap (inE d p' c):=by unfold in1;dsimp only;rw [hF,hc]
  obtain ⟨w1,w2,w3,w4,w5,w6⟩:=wf.fn f F hF
  subst hT;subst hB
  refine unp2 ?_
  refine for_intro fun T B hT hB=>?_
  simp only [tkD,VV]
  refine ⟨C,f,p',F,rfl,hF,w5,?_⟩
  simp only [VV]
  refine forL_map (fun p2 δ h''=>h''=fz i o P h'∧(∃ x4 x5,δ=[some (cD C),some (.ref i),some (.tup [nD f,nD p',nD d]),some (nD c),x4,x5])∧∀ y ∈ p2,∀ x ∈ inE d p' c y.1,Met P x) ⟨rfl,⟨_,_,rfl⟩,fun _ z=>nomatch z⟩ (fun _ _ _ _=>Src.ok_nil) ?_ ?_
  ·rintro p2 ⟨E,n⟩ r2 δ h'' N2 e2 ⟨rfl,⟨x4,x5,rfl⟩,hp2⟩ hN2
   subst hT;subst hB
   refine unp2 ?_
   obtain ⟨hE,hEp⟩:=mem_from (show (E,n) ∈ fromE F p' by rw [e2];simp)
   obtain ⟨o1,o2,o3,o4,o5⟩:=w6 E hE
   obtain ⟨ep,eq,ec,ekk⟩:=E
   have hEp:ep=p':=hEp
   subst hEp
   cases ekk with
   |step t =>
    simp only [eD,VV]
    exact hN2 _ _ ⟨rfl,⟨_,_,rfl⟩,all_snoc hp2 fun x hx=>nomatch hx⟩
   |call g ti t oo =>
    obtain ⟨G,hG,t1,t2,t3⟩:=o5
    have m64:=bits64 (d:=d) t1 (wf.fn g G hG).2.2.2.1
    have ei':inE d ep c ⟨ep,eq,ec,.call g ti t oo⟩=(facts6 (ti.getD d 0)).map fun e=>([g,0] ++ [e],c + ec):=if_pos rfl
    simp only [eD,tD_ix (fz i o P h') t1 h3,VV]
    refine ⟨i,some o,P,[g,0],ti.getD d 0,c + ec,by rw [nD_add];rfl,eP,fun z=>(nomatch z),by show 2 ≤ 10;decide,m64,fun b hbb=>?_⟩
    simp only [VV]
    cases b with
    |true =>
     simp only [VV]
     refine hN2 _ _ ⟨rfl,⟨_,_,rfl⟩,all_snoc hp2 fun x hx=>?_⟩
     rw [ei'] at hx
     obtain ⟨e,he,rfl⟩:=List.mem_map.mp hx
     exact hbb.mp rfl e he
    |false =>
     simp only [VV]
     refine hR _ _ ei (q _ ⟨fun z=>(nomatch z),fun z=>?_⟩)
     have:=hbb.mpr fun e he=>z _ kin _ (by rw [ea];exact List.mem_flatMap.mpr ⟨_,hE,by rw [ei'];exact List.mem_map.mpr ⟨e,he,rfl⟩⟩)
     cases this
  ·rintro δ h'' ⟨rfl,⟨x4,x5,rfl⟩,hp2⟩
   refine hN1 _ _ ⟨rfl,⟨_,_,_,_,rfl⟩,all_snoc hp fun x hx=>?_⟩
   rw [ea] at hx
   obtain ⟨E,hE,hx⟩:=List.mem_flatMap.mp hx
   obtain ⟨g,ti,t,oo,ee,hk,hEp,he,rfl⟩:=mem_in.mp hx
   obtain ⟨n,hn⟩:=from_mem hE hEp
   exact hp2 _ hn _ hx
 ·rintro δ h' ⟨rfl,⟨x2,x3,x4,x5,rfl⟩,hp⟩
  subst hN
  simp only [VV]
  exact q _ ⟨fun _=>all_keys hp,fun _=>rfl⟩
theorem ok_q23{f:Addr}{fd:FuncData}(F:Fun K "ins_are_told" "ins_are_told" s_q23 f fd)(T:Txt P w K mg)(C_q20:Cal P w K mg base 1 "edges_from" ["chart","f","p"] (spD K 3 S_q20))(C_q18:Cal P w K mg base 2 "are_told" ["costs","behind","mask","cost"] (spD K 4 S_q18)):FnOk P w K mg base CX0 3 f fd ["chart","places"] (spD K 2 S_q23) :=
 fn_ok (k:=2) (b:=b_q23) F sc_q23 (fun cdv A outer s H E hr=>by
  refine ss_cons ?_ ?_
  ·exact s_forI PassesOwn.never rfl (si_items (sv 1)) (sg_tup rfl (sgs_cons (sg_name (i:=2) sc_q23.nd rfl (Or.inl rfl)) (sgs_cons (sg_name (i:=3) sc_q23.nd rfl (Or.inl rfl)) sgs_nil))) (ss_one (s_for PassesOwn.never rfl (si_seq (se_cal C_q20 (hr.mono (by decide)) rfl (sa_cons (sv 0) (sa_cons (se_ix ok_ix (sv 2) se_int (fun _ _=>rfl)) (sa_cons (se_ix ok_ix (sv 2) se_int (fun _ _=>rfl)) sa_nil))))) (sg_tup rfl (sgs_cons (sg_name (i:=4) sc_q23.nd rfl (Or.inl rfl)) (sgs_cons (sg_name (i:=5) sc_q23.nd rfl (Or.inl rfl)) sgs_nil))) (ss_one (s_if (st_w (sw_and (st_cmp (ok_eq hr.units) (se_ix ok_ix (sv 5) se_int (fun _ _=>rfl)) se_str (nomark _)) (sw_and1 (st_not (st_truth (se_cal C_q18 (hr.mono (by decide)) rfl (sa_cons (sv 1) (sa_cons (se_tup (sa_cons (se_ix ok_ix (sv 5) se_int (fun _ _=>rfl)) (sa_cons se_int sa_nil))) (sa_cons (se_ix ok_ix (se_ix ok_ix (sv 5) se_int (fun _ _=>rfl)) (se_ix ok_ix (sv 2) se_int (fun _ _=>rfl)) (fun _ _=>rfl)) (sa_cons (se_op ok_plus (sv 3) (se_ix ok_ix (sv 5) se_int (fun _ _=>rfl))) sa_nil)))))))))) (ss_one (s_ret se_bl)) ss_nil))))
  refine ss_one ?_
  refine s_ret ?_
  exact se_bl) imp_q23
noncomputable def b_q5:DS:=(dSeq (dAsg (dTk (dCons (dOp pPlus (dOp pMod (dVar 0) (dC (.int 2147483629))) (dC (.int 7))) dNil)) (dName 4))
  (dSeq (dAsg (dOp pIx (dVar 1) (dVar 2)) (dUnp 2 (dGCons (dName 5) (dGCons (dName 6) dGNil))))
  (dSeq (dAsg (dCal S_q10 (dCons (dVar 4) (dCons (dVar 5) dNil))) (dName 7))
  (dSeq (dAsg (dCal S_q10 (dCons (dVar 4) (dCons (dVar 5) dNil))) (dName 8))
  (dSeq (dIfS (dTst (dOp pGt (dCal S_q10 (dCons (dVar 4) (dCons (dC (.int 3)) dNil))) (dC (.int 0)))) (dAsg (dCB pMin (dCons (dOp pPlus (dVar 7) (dC (.int 1))) (dCons (dOp pSub (dVar 5) (dC (.int 1))) dNil))) (dName 8)) dNext)
  (dSeq (dAsg (dCal S_q4 (dCons (dVar 4) dNil)) (dName 9))
  (dSeq (dIfS (dTst (dOp pGt (dCal S_q10 (dCons (dVar 4) (dCons (dVar 3) dNil))) (dC (.int 0)))) (dRet (dTup (dCons (dC (.str "step")) (dCons (dVar 7) (dCons (dVar 8) (dCons (dVar 9) (dCons (dCal S_q15 (dCons (dVar 4) (dCons (dVar 6) (dCons (dVar 6) dNil)))) dNil))))))) dNext)
  (dSeq (dAsg (dCal S_q10 (dCons (dVar 4) (dCons (dCB pLen (dCons (dVar 1) dNil)) dNil))) (dName 10))
  (dSeq (dAsg (dOp pIx (dOp pIx (dVar 1) (dVar 10)) (dC (.int 1))) (dName 11))
  (dSeq (dAsg (dCal S_q15 (dCons (dVar 4) (dCons (dVar 6) (dCons (dVar 11) dNil)))) (dName 12))
  (dSeq (dAsg (dCal S_q15 (dCons (dVar 4) (dCons (dVar 11) (dCons (dVar 6) dNil)))) (dName 13))
  (dSeq (dAsg (dCB pTuple (dCons (dV (dComp [none,some 6] (dISeq (dCal S_q15 (dCons (dVar 4) (dCons (dVar 6) (dCons (dVar 6) dNil))))) (dName 0) dNoIf (dOp pBand (dOp pBand (dVar 0) (dC (.int 14))) (dOp pSub (dOp pShl (dC (.int 1)) (dVar 1)) (dC (.int 1)))))) dNil)) (dName 14))
  (dRet (dTup (dCons (dC (.str "call")) (dCons (dVar 7) (dCons (dVar 8) (dCons (dVar 9) (dCons (dVar 10) (dCons (dVar 12) (dCons (dVar 13) (dCons (dVar 14) dNil))))))))))))))))))))))
noncomputable abbrev Hd:=List (Nat×Nat)
noncomputable def pD(x:Nat×Nat):D:=.tup [nD x.1,nD x.2]
noncomputable def hOk(hs:Hd):Prop:=∀ (f:Nat) (x:Nat×Nat),hs[f]?=some x→1 ≤ x.1∧x.1 ≤ 3∧1 ≤ x.2∧x.2 ≤ 6
noncomputable def eOkH(hs:Hd)(x:Nat×Nat)(e:Edge):Prop:=e.p < x.1∧e.q < x.1∧1 ≤ e.cost∧e.cost ≤ 10 ^ 18∧match e.k with
 |.step t=>tOk t x.2 x.2
 |.call g i b o=>∃ y,hs[g]?=some y∧tOk i x.2 y.2∧tOk b y.2 x.2∧tOk o x.2 x.2
noncomputable def S_q5:DSp:=fun ds h Q=>∃ (c:Int) (hd:D) (hs:Hd) (f most:Nat) (x:Nat×Nat),ds=[.int c,hd,nD f,nD most]∧lsOf h hd=some (hs.map pD)∧hs[f]?=some x∧hOk hs∧hs.length ≤ 6∧1 ≤ most∧most ≤ 10∧∀ e,eOkH hs x e→Q (eD e) h
theorem imp_q5:∀ ds h Q,S_q5 ds h Q→runD 15 b_q5 ds h (Dr h Q):=by
 rintro ds h Q ⟨c,hd,hs,f,most,x,rfl,hl,hf,ok,h6,m1,m2,q⟩
 obtain ⟨o1,o2,o3,o4⟩:=ok f x hf
 have pr:∀ o,Pre h (h ++ [o]):=fun o=>Pre.app _ _
 have fl:f < hs.length:=(List.getElem?_eq_some_iff.mp hf).1
 have sz:(hs.map pD).length=hs.length:=List.length_map ..
 delta runD b_q5;simp only [List.map_cons,List.map_nil,List.cons_append,List.nil_append,List.length_cons,List.length_nil,List.replicate,Nat.reduceSub,Nat.reduceAdd,Nat.zero_add,Nat.sub_self]
 (try dsimp only);refine seq_intro fun N hN=>?_
 simp only [VV]
 refine ⟨by decide,?_⟩
 subst hN
 (try dsimp only);refine seq_intro fun N hN=>?_
 have ix:∀ o,ixD (h ++ [o]) hd (nD f)=some (pD x):=fun o=>by rw [ix_ls ((pr o).ls hl),atN,List.getElem?_map,hf];rfl
 simp only [ix,pD,VV]
 refine ⟨trivial,?_⟩
 subst hN
 (try dsimp only);refine seq_intro fun N hN=>?_
 simp only [VV]
 refine ⟨h.length,_,_,rfl,get_new ..,by first | decide | omega,fun s1 p hp=>?_⟩
 rw [set_new]
 have hp':p < x.1:=by first | decide | omega
 subst hN
 (try dsimp only);refine seq_intro fun N hN=>?_
 simp only [VV]
 refine ⟨h.length,_,_,rfl,get_new ..,by first | decide | omega,fun s2 q0 hq0=>?_⟩
 rw [set_new]
 subst hN
 (try dsimp only);refine seq_intro fun N hN=>?_
 have rest:∀ (s3:Int) (q1:Nat),q1 < x.1→N [some (.int c),some hd,some (nD f),some (nD most),some (.ref h.length),some (nD x.1),some (nD x.2),some (nD p),some (nD q1),none,none,none,none,none,none] (h ++ [.lst [.int s3]]):=fun s3 q1 hq1=>by
  subst hN
  (try dsimp only);refine seq_intro fun N hN=>?_
  simp only [VV]
  refine ⟨h.length,_,rfl,get_new ..,fun s4 cst hc1 hc2=>?_⟩
  rw [set_new]
  subst hN
  (try dsimp only);refine seq_intro fun N hN=>?_
  simp only [VV]
  refine ⟨h.length,_,_,rfl,get_new ..,by first | decide | omega,fun s5 r5 hr5=>?_⟩
  rw [set_new]
  by_cases z:(0:Int) < (r5:Int)
  ·simp only [z,VV]
   refine ⟨h.length,_,x.2,x.2,rfl,get_new ..,o4,o3,o4,fun s6 t ht=>?_⟩
   rw [set_new]
   exact Dr.drop (nrD_eD ⟨p,q1,cst,.step t⟩) (q ⟨p,q1,cst,.step t⟩ ⟨hp',hq1,hc1,hc2,ht⟩)
  ·simp only [z,VV]
   subst hN
   (try dsimp only);refine seq_intro fun N hN=>?_
   simp only [len_ls ((pr _).ls hl),sz,VV]
   refine ⟨h.length,_,_,rfl,get_new ..,by first | decide | omega,fun s6 g hg=>?_⟩
   rw [set_new]
   have hgl:g < hs.length:=by first | decide | omega
   obtain ⟨y,hy⟩:∃ y,hs[g]?=some y:=⟨_,List.getElem?_eq_getElem hgl⟩
   obtain ⟨y1,y2,y3,y4⟩:=ok g y hy
   have ix2:∀ o,ixD (h ++ [o]) hd (nD g)=some (pD y):=fun o=>by rw [ix_ls ((pr o).ls hl),atN,List.getElem?_map,hy];rfl
   subst hN
   (try dsimp only);refine seq_intro fun N hN=>?_
   simp only [ix2,pD,VV]
   subst hN
   (try dsimp only);refine seq_intro fun N hN=>?_
   simp only [VV]
   refine ⟨h.length,_,x.2,y.2,rfl,get_new ..,o4,y3,y4,fun s7 ti hti=>?_⟩
   rw [set_new]
   subst hN
   (try dsimp only);refine seq_intro fun N hN=>?_
   simp only [VV]
   refine ⟨h.length,_,y.2,x.2,rfl,get_new ..,y4,o3,o4,fun s8 tb htb=>?_⟩
   rw [set_new]
   subst hN
   (try dsimp only);refine seq_intro fun N hN=>?_
   simp only [VV]
   refine ⟨h.length,_,x.2,x.2,rfl,get_new ..,o4,o3,o4,fun s9 to hto=>?_⟩
   rw [set_new]
   simp only [tD,VV]
   refine ⟨by rw [List.length_map,hto.1];omega,?_⟩
   refine comp1n (fun mk=>nD (mk &&& 14 &&& (2 ^ x.2 - 1))) Src.ok_nil none (fun mk hmk K k=>?_) ?_
   ·simp only [VV]
    refine ⟨⟨by first | decide | omega,by first | decide | omega,by decide⟩,?_⟩
    have e14:(14:Int)=((14:Nat):Int):=rfl
    have e2:((2 ^ x.2:Nat):Int) - 1=((2 ^ x.2 - 1:Nat):Int):=by have:=Nat.two_pow_pos x.2;omega
    rw [shl1,e14,band_nat,e2,band_nat]
    exact k
   ·subst hN
    simp only [VV]
    have ho:tOk (to.map fun mk=>mk &&& 14 &&& (2 ^ x.2 - 1)) x.2 x.2:=by
     refine ⟨by rw [List.length_map];exact hto.1,fun z hz=>?_⟩
     obtain ⟨mk,hmk,rfl⟩:=List.mem_map.mp hz
     have h1:=hto.2 mk hmk
     have h2:mk &&& 14 &&& (2 ^ x.2 - 1) ≤ mk &&& 14:=Nat.and_le_left
     have h3:mk &&& 14 ≤ mk:=Nat.and_le_left
     omega
    have:=q ⟨p,q1,cst,.call g ti tb (to.map fun mk=>mk &&& 14 &&& (2 ^ x.2 - 1))⟩ ⟨hp',hq1,hc1,hc2,y,hy,hti,htb,ho⟩
    have e9:eD ⟨p,q1,cst,.call g ti tb (to.map fun mk=>mk &&& 14 &&& (2 ^ x.2 - 1))⟩ = .tup [.str "call",nD p,nD q1,nD cst,nD g,tD ti,tD tb,.tup (to.map fun mk=>nD (mk &&& 14 &&& (2 ^ x.2 - 1)))]:=by
     show D.tup [.str "call",nD p,nD q1,nD cst,nD g,tD ti,tD tb,.tup ((to.map fun mk=>mk &&& 14 &&& (2 ^ x.2 - 1)).map nD)]=_
     rw [List.map_map];rfl
    have nr:=nrD_eD ⟨p,q1,cst,.call g ti tb (to.map fun mk=>mk &&& 14 &&& (2 ^ x.2 - 1))⟩
    rw [e9] at this nr
    exact Dr.drop nr this
 simp only [VV]
 refine ⟨h.length,_,_,rfl,get_new ..,by first | decide | omega,fun s3 r3 hr3=>?_⟩
 rw [set_new]
 by_cases z:(0:Int) < (r3:Int)
 ·simp only [z,VV]
  by_cases z2:(x.1:Int) - 1 < (p:Int) + 1
  ·simp only [z2,VV]
   rw [show (x.1:Int) - 1=((x.1 - 1:Nat):Int) by first | decide | omega]
   exact rest s3 _ (by first | decide | omega)
  ·simp only [z2,VV]
   rw [show (p:Int) + 1=((p + 1:Nat):Int) by first | decide | omega]
   exact rest s3 _ (by first | decide | omega)
 ·simp only [z,VV]
  exact rest s3 q0 (by first | decide | omega)
theorem ok_q5{f:Addr}{fd:FuncData}(F:Fun K "_law_edge" "_law_edge" s_q5 f fd)(T:Txt P w K mg)(C_q10:Cal P w K mg base 1 "_law_next" ["_law_state","_law_many"] (spD K 2 S_q10))(C_q4:Cal P w K mg base 2 "_law_cost" ["_law_state"] (spD K 1 S_q4))(C_q15:Cal P w K mg base 2 "_law_table" ["_law_state","_law_many","_law_facts_here"] (spD K 3 S_q15)):FnOk P w K mg base CX0 3 f fd ["_law_cell_here","_law_heads","_law_f","_law_most"] (spD K 4 S_q5) :=
 fn_okD (k:=2) (b:=b_q5) F sc_q5 (fun cdv A outer s H E hr=>by
  refine ss_cons ?_ ?_
  ·refine s_set (i:=4) ?_ ?_ ?_ ?_
   ·exact sc_q5.nd
   ·exact rfl
   ·exact Or.inl rfl
   exact se_t (sn_lst (sa_cons (se_op ok_plus (se_op ok_mod (sv 0) se_int) se_int) sa_nil))
  refine ss_cons ?_ ?_
  ·exact s_asg (se_ix ok_ix (sv 1) (sv 2) (fun _ _=>rfl)) (sg_tup rfl (sgs_cons (sg_name (i:=5) sc_q5.nd rfl (Or.inl rfl)) (sgs_cons (sg_name (i:=6) sc_q5.nd rfl (Or.inr rfl)) sgs_nil)))
  refine ss_cons ?_ ?_
  ·refine s_set (i:=7) ?_ ?_ ?_ ?_
   ·exact sc_q5.nd
   ·exact rfl
   ·exact Or.inl rfl
   exact se_cal C_q10 (hr.mono (by decide)) rfl (sa_cons (sv 4) (sa_cons (sv 5) sa_nil))
  refine ss_cons ?_ ?_
  ·refine s_set (i:=8) ?_ ?_ ?_ ?_
   ·exact sc_q5.nd
   ·exact rfl
   ·exact Or.inl rfl
   exact se_cal C_q10 (hr.mono (by decide)) rfl (sa_cons (sv 4) (sa_cons (sv 5) sa_nil))
  refine ss_cons ?_ ?_
  ·refine s_if ?_ ?_ ?_
   ·exact st_cmp ok_gt (se_cal C_q10 (hr.mono (by decide)) rfl (sa_cons (sv 4) (sa_cons se_int sa_nil))) se_int (nomark _)
   ·refine ss_one ?_
    refine s_set (i:=8) ?_ ?_ ?_ ?_
    ·exact sc_q5.nd
    ·exact rfl
    ·exact Or.inl rfl
    exact se_callB (ok_min rfl) rfl T.b_min PyProof.Rows.boot_min (sa_cons (se_op ok_plus (sv 7) se_int) (sa_cons (se_op ok_sub (sv 5) se_int) sa_nil))
   exact ss_nil
  refine ss_cons ?_ ?_
  ·refine s_set (i:=9) ?_ ?_ ?_ ?_
   ·exact sc_q5.nd
   ·exact rfl
   ·exact Or.inl rfl
   exact se_cal C_q4 (hr.mono (by decide)) rfl (sa_cons (sv 4) sa_nil)
  refine ss_cons ?_ ?_
  ·refine s_if ?_ ?_ ?_
   ·exact st_cmp ok_gt (se_cal C_q10 (hr.mono (by decide)) rfl (sa_cons (sv 4) (sa_cons (sv 3) sa_nil))) se_int (nomark _)
   ·refine ss_one ?_
    refine s_ret ?_
    refine se_tup (n:=5) ?_
    refine sa_cons ?_ ?_
    ·exact se_str
    refine sa_cons ?_ ?_
    ·exact sv 7
    refine sa_cons ?_ ?_
    ·exact sv 8
    refine sa_cons ?_ ?_
    ·exact sv 9
    refine sa_cons ?_ ?_
    ·exact se_cal C_q15 (hr.mono (by decide)) rfl (sa_cons (sv 4) (sa_cons (sv 6) (sa_cons (sv 6) sa_nil)))
    exact sa_nil
   exact ss_nil
  refine ss_cons ?_ ?_
  ·refine s_set (i:=10) ?_ ?_ ?_ ?_
   ·exact sc_q5.nd
   ·exact rfl
   ·exact Or.inl rfl
   exact se_cal C_q10 (hr.mono (by decide)) rfl (sa_cons (sv 4) (sa_cons (se_callB ok_len rfl T.b_len PySem.boot_len (sa_cons (sv 1) sa_nil)) sa_nil))
  refine ss_cons ?_ ?_
  ·refine s_set (i:=11) ?_ ?_ ?_ ?_
   ·exact sc_q5.nd
   ·exact rfl
   ·exact Or.inl rfl
   exact se_ix ok_ix (se_ix ok_ix (sv 1) (sv 10) (fun _ _=>rfl)) se_int (fun _ _=>rfl)
  refine ss_cons ?_ ?_
  ·refine s_set (i:=12) ?_ ?_ ?_ ?_
   ·exact sc_q5.nd
   ·exact rfl
   ·exact Or.inl rfl
   exact se_cal C_q15 (hr.mono (by decide)) rfl (sa_cons (sv 4) (sa_cons (sv 6) (sa_cons (sv 11) sa_nil)))
  refine ss_cons ?_ ?_
  ·refine s_set (i:=13) ?_ ?_ ?_ ?_
   ·exact sc_q5.nd
   ·exact rfl
   ·exact Or.inl rfl
   exact se_cal C_q15 (hr.mono (by decide)) rfl (sa_cons (sv 4) (sa_cons (sv 11) (sa_cons (sv 6) sa_nil)))
  refine ss_cons ?_ ?_
  ·refine s_set (i:=14) ?_ ?_ ?_ ?_
   ·exact sc_q5.nd
   ·exact rfl
   ·exact Or.inl rfl
   exact se_callTy ok_tuple rfl T.b_tuple PyProof.Rows.boot_tuple (sa_cons (se_v (sn_comp rfl (N':= ["_law_mask","_law_facts_here"]) (js:=[none,some 6]) ⟨rfl,by decide +kernel,rfl,rfl,rfl⟩ (si_seq (se_cal C_q15 (hr.mono (by decide)) rfl (sa_cons (sv 4) (sa_cons (sv 6) (sa_cons (sv 6) sa_nil))))) (fun s0 H0 fp=>⟨(sg_name (i:=0) (show (["_law_mask","_law_facts_here"]:List Str).Nodup by decide +kernel) rfl (Or.inl rfl)),sf_nil,(se_op ok_band (se_op ok_band (sv 0) se_int) (se_op ok_sub (se_op ok_shl se_int (sv 1)) se_int))⟩))) sa_nil)
  refine ss_one ?_
  refine s_ret ?_
  refine se_tup (n:=8) ?_
  refine sa_cons ?_ ?_
  ·exact se_str
  refine sa_cons ?_ ?_
  ·exact sv 7
  refine sa_cons ?_ ?_
  ·exact sv 8
  refine sa_cons ?_ ?_
  ·exact sv 9
  refine sa_cons ?_ ?_
  ·exact sv 10
  refine sa_cons ?_ ?_
  ·exact sv 12
  refine sa_cons ?_ ?_
  ·exact sv 13
  refine sa_cons ?_ ?_
  ·exact sv 14
  exact sa_nil) imp_q5
noncomputable def b_q8:DS:=(dSeq (dAsg dDNew (dName 2))
  (dSeq (dFor (dIRange (dCons (dCB pLen (dCons (dVar 0) dNil)) dNil)) (dName 3) (dFor (dIRange (dCons (dOp pIx (dOp pIx (dVar 0) (dVar 3)) (dC (.int 1))) dNil)) (dName 4) (dDPut (dVar 2) (dTup (dCons (dVar 3) (dCons (dVar 4) (dCons (dC (.int 0)) (dCons (dVar 4) dNil))))) (dC (.int 0)))))
  (dSeq (dAsg (dC (.bl true)) (dName 5))
  (dSeq (dWhile (dTr (dVar 5)) (dSeq (dAsg (dC (.bl false)) (dName 5))
  (dFor (dISeq (dV (dListT (dCons (dVar 2) dNil)))) (dName 6) (dIfS (dTr (dCal S_q9 (dCons (dVar 2) (dCons (dCal S_q13 (dCons (dVar 0) (dCons (dVar 2) (dCons (dVar 6) dNil)))) dNil)))) (dAsg (dC (.bl true)) (dName 5)) dNext))))
  (dSeq (dAsg dDNew (dName 7))
  (dSeq (dFor (dISeq (dCal S_q6 (dCons (dVar 1) dNil))) (dName 4) (dDPut (dVar 7) (dTup (dCons (dC (.int 0)) (dCons (dC (.int 0)) (dCons (dVar 4) dNil)))) (dC (.int 0))))
  (dSeq (dWhile (dTr (dCal S_q9 (dCons (dVar 7) (dCons (dCal S_q12 (dCons (dVar 0) (dCons (dVar 2) (dCons (dVar 7) dNil)))) dNil)))) (dAsg (dC (.bl false)) (dName 5)))
  (dRet (dTup (dCons (dVar 2) (dCons (dVar 7) dNil)))))))))))
theorem ixD_cD{h:Hh}{C:Chart}{f:Nat}{F:Fn}(hF:C[f]?=some F):ixD h (cD C) (.int (f:Int))=some (fD F):=ix_chart C hF
theorem lenD_cD(h:Hh)(C:Chart):lenD h (cD C)=some C.length:=by show some (C.map fD).length=_;rw [List.length_map]
theorem keys_map(I:Ct):(I.map fun x=>tkD x.1)=(keys I).map tkD:=by unfold keys;rw [List.map_map];rfl
theorem beg_ins{C:Chart}{I:Ct}(tI:TOk (K4 C) I)(hb:∀ k c,look I k=some c→(k,0) ∈ begI C)(hz:∀ f ∈ List.range C.length,∀ F,C[f]?=some F→∀ d,d < F.facts→Z I [f,d,0,d]):Ins C I :=
 ⟨tI,fun x hx=>by
  obtain ⟨f,F,d,hF,hd,rfl⟩:=mem_begI.mp hx
  exact met_put.mpr (hz f (List.mem_range.mpr (List.getElem?_eq_some_iff.mp hF).1) F hF d hd),fun k c e=>.inl (hb k c e)⟩
theorem beg_outs{C:Chart}{st:Nat}{I P:Ct}(tP:TOk (K3 C) P)(hb:∀ k c,look P k=some c→(k,0) ∈ begP st)(hz:∀ d ∈ facts6 st,Z P [0,0,d]):Outs C st I P :=
 ⟨tP,fun x hx=>by
  obtain ⟨d,h1,h2,rfl⟩:=mem_begP.mp hx
  exact met_put.mpr (hz d (mem6.mpr ⟨h1,h2⟩)),fun k c e=>.inl (hb k c e)⟩
theorem beg_put{m:Ct}{B:Kt→Prop}(h:∀ k c,look m k=some c→B k){k0:Kt}(h0:B k0):∀ k c,look (putT m k0 0) k=some c→B k:=fun k c e=>by
 rw [look_put] at e
 by_cases z:k0=k
 ·rw [← z];exact h0
 ·rw [if_neg z] at e;exact h k c e
noncomputable def S_q8:DSp:=fun ds h Q=>∃ (C:Chart) (st:Nat) (F:Fn),ds=[cD C,nD st]∧WF C∧Small C∧C[0]?=some F∧st < 2 ^ F.facts∧∀ I P,Least C st I P→Q (.tup [.ref h.length,.ref (h.length + 1)]) (h ++ [.dT none (tbD I),.dT none (tbD P)])
theorem imp_q8:∀ ds h Q,S_q8 ds h Q→runD 8 b_q8 ds h Q:=by
 rintro ds h Q ⟨C,st,F0,rfl,wf,sm,hF0,hst,q⟩
 have c6:=wf.six
 delta runD b_q8;simp only [List.map_cons,List.map_nil,List.cons_append,List.nil_append,List.length_cons,List.length_nil,List.replicate,Nat.reduceSub,Nat.reduceAdd,Nat.zero_add,Nat.sub_self]
 (try dsimp only);refine seq_intro fun N hN=>?_
 simp only [VV]
 subst hN
 (try dsimp only);refine seq_intro fun N hN=>?_
 have rest:∀ (I:Ct) (x3 x4:Option D),Ins C I→N [some (cD C),some (nD st),some (.ref h.length),x3,x4,none,none,none] (h ++ [.dT none (tbD I)]):=fun I x3 x4 ins=>by
  subst hN
  (try dsimp only);refine seq_intro fun N hN=>?_
  simp only [VV]
  subst hN
  (try dsimp only);refine seq_intro fun N hN=>?_
  have rest:∀ (I:Ct) (x3 x4 x5 x6:Option D),Ins C I→(∀ k ∈ keys I,∀ x ∈ pairsN C I k,Met I x)→N [some (cD C),some (nD st),some (.ref h.length),x3,x4,x5,x6,none] (h ++ [.dT none (tbD I)]):=fun I x3 x4 x5 x6 ins cl=>by
   subst hN
   have lI:=len4 wf sm ins.ok
   (try dsimp only);refine seq_intro fun N hN=>?_
   simp only [VV]
   have l1:(h ++ [O.dT none (tbD I)]).length=h.length + 1:=by rw [List.length_append];rfl
   rw [l1,List.append_assoc]
   subst hN
   (try dsimp only);refine seq_intro fun N hN=>?_
   refine for_intro fun T B hT hB=>?_
   simp only [VV]
   refine ⟨st,rfl,?_⟩
   simp only [VV]
   refine forL_map (fun p δ h'=>∃ (P:Ct) (x4:Option D),δ=[some (cD C),some (nD st),some (.ref h.length),x3,x4,x5,x6,some (.ref (h.length + 1))]∧h'=h ++ [.dT none (tbD I),.dT none (tbD P)]∧TOk (K3 C) P∧(∀ k c,look P k=some c→(k,0) ∈ begP st)∧∀ d ∈ p,Z P [0,0,d]) ⟨[],_,rfl,rfl,.nil,fun k c e=>(nomatch e),fun _ z=>nomatch z⟩ (fun _ _ _ _=>Src.ok_nil) ?_ ?_
   ·rintro p d r δ h' N1 e ⟨P,x4,rfl,rfl,tP,hb,hz⟩ hN1
    have hd:d ∈ facts6 st:=by rw [e];simp
    have hd':([0,0,d],0) ∈ begP st:=List.mem_map.mpr ⟨d,hd,rfl⟩
    have lP:=len3 wf sm tP
    subst hT;subst hB
    refine name_in ?_
    simp only [VV]
    refine putH_tb (k:=[0,0,d]) (v:=0) two_1 (Nat.lt_of_le_of_lt lP (by decide)) ?_
    rw [two_s1]
    exact hN1 _ _ ⟨putT P [0,0,d] 0,_,rfl,rfl,tP.put (begP_ok wf hF0 hst _ hd'),beg_put hb hd',all_snoc (fun d hd=>(hz d hd).put _) (Z.new _ _)⟩
   ·rintro δ h' ⟨P,x4,rfl,rfl,tP,hb,hz⟩
    subst hN
    (try dsimp only);refine seq_intro fun N hN=>?_
    have outs:Outs C st I P:=beg_outs tP hb hz
    obtain ⟨n,hn⟩:=ends_P wf sm ins.ok outs
    refine while_intro fun B hB=>?_
    refine while_e (fun n δ h'=>∃ (P:Ct) (x5:Option D),δ=[some (cD C),some (nD st),some (.ref h.length),x3,x4,x5,x6,some (.ref (h.length + 1))]∧h'=h ++ [.dT none (tbD I),.dT none (tbD P)]∧Outs C st I P∧Ends (stepP C I) n P) (m:=n) ⟨P,_,rfl,rfl,outs,hn⟩ ?_
    clear tP hb hz outs hn
    rintro m δ h' N1 ⟨P,x5,rfl,rfl,outs,en⟩ hN1
    have lP:=len3 wf sm outs.ok
    have lO:=len_outer wf lI lP
    simp only [VV]
    refine ⟨C,h.length,h.length + 1,I,P,rfl,two_0,two_1,Nat.ne_of_lt (Nat.lt_succ_self _),wf,ins.ok,outs.ok,Nat.le_trans lI (by decide),Nat.le_trans lP (by decide),?_⟩
    simp only [VV]
    refine ⟨h.length + 1,P,_,rfl,two_1,Nat.lt_of_le_of_lt (Nat.add_le_add lP lO) (by decide),?_⟩
    simp only [two_s1,VV]
    have es:lower P (outerN C I P)=stepP C I P:=rfl
    rw [es]
    have outs':=outs.step wf ins.ok
    cases en with
    |stop e0 =>
     rw [e0]
     have e1:(stepP C I P).1=P:=(lower_false e0).1
     rw [e1]
     simp only [VV]
     subst hN
     simp only [VV]
     exact q I P (least_of ins cl outs e0)
    |@more _ n' e0 en =>
     rw [e0]
     simp only [VV]
     subst hB
     simp only [VV]
     exact hN1 n' _ _ (Nat.lt_succ_self _) ⟨_,_,rfl,rfl,outs',en⟩
  obtain ⟨n,hn⟩:=ends_I wf sm ins
  refine while_intro fun B hB=>?_
  refine while_e (fun n δ h'=>∃ (I:Ct) (g:Bool) (x6:Option D),δ=[some (cD C),some (nD st),some (.ref h.length),x3,x4,some (.bl g),x6,none]∧h'=h ++ [.dT none (tbD I)]∧Ins C I∧(g=true→∃ m,n=m + 1∧Ends (passI C) m I)∧(g=false→∀ k ∈ keys I,∀ x ∈ pairsN C I k,Met I x)) (m:=n + 1) ⟨I,true,_,rfl,rfl,ins,fun _=>⟨n,rfl,hn⟩,fun z=>nomatch z⟩ ?_
  clear ins hn
  rintro m δ h' N1 ⟨I,g,x6,rfl,rfl,ins,hg,hc⟩ hN1
  cases g with
  |false=>simp only [VV];exact rest I _ _ _ _ ins (hc rfl)
  |true =>
   obtain ⟨m,rfl,en⟩:=hg rfl
   clear hg hc
   simp only [VV]
   subst hB
   (try dsimp only);refine seq_intro fun N hN=>?_
   simp only [VV]
   subst hN
   refine for_intro fun T B hT hB=>?_
   simp only [VV]
   refine ⟨h.length,none,_,rfl,get_new ..,?_⟩
   rw [keys_tb,keys_map]
   refine forL_map (fun p δ h'=>∃ (s:Ct×Bool) (x6:Option D),s=p.foldl (pass1 C) (I,false)∧δ=[some (cD C),some (nD st),some (.ref h.length),x3,x4,some (.bl s.2),x6,none]∧h'=h ++ [.dT none (tbD s.1)]) ⟨(I,false),_,rfl,rfl,rfl⟩ (fun _ _ _ _=>Src.ok_nil) ?_ ?_
   ·rintro p k r δ h' N2 e ⟨s,x6,hs,rfl,rfl⟩ hN2
    have ins':Ins C s.1:=by rw [hs];exact (pass_all wf (ks:=p) (s:=(I,false)) ins).1
    have lI:=len4 wf sm ins'.ok
    have le:Le I s.1:=by rw [hs];exact pass_le C (s:=(I,false))
    have hk:k ∈ keys I:=by rw [e];simp
    obtain ⟨c1,hc1⟩:=look_key.mp hk
    obtain ⟨c,hc,_⟩:=le k c1 hc1
    obtain ⟨f,a,p',d,F,rfl,hF,h1,h2,h3⟩:=ins.ok.all k hk
    have w5:=(wf.fn f F hF).2.2.2.2.1
    have ll:=len_edges wf (I:=s.1) (f:=f) (a:=a) (p:=p') (d:=d) (c:=c) F.edges
    have nxt:pass1 C s [f,a,p',d]=(p ++ [[f,a,p',d]]).foldl (pass1 C) (I,false):=by rw [List.foldl_append,← hs];rfl
    subst hT;subst hB
    refine name_in ?_
    (try dsimp only);refine if_intro fun A1 B1 hA hB=>?_
    simp only [VV]
    refine ⟨C,h.length,f,a,p',d,c,none,s.1,F,rfl,get_new ..,hF,hc,wf,h3,?_⟩
    simp only [VV]
    refine ⟨h.length,s.1,_,rfl,get_new ..,Nat.lt_of_le_of_lt (Nat.add_le_add lI (Nat.le_trans ll (Nat.mul_le_mul_right 222 w5))) (by decide),?_⟩
    rw [set_new,← pairs_of hF hc]
    simp only [VV]
    cases w:(lower s.1 (pairsN C s.1 [f,a,p',d])).2 with
    |true =>
     simp only [VV]
     subst hA
     simp only [VV]
     exact hN2 _ _ ⟨pass1 C s [f,a,p',d],_,nxt,by unfold pass1;rw [w];rfl,rfl⟩
    |false =>
     simp only [VV]
     subst hB
     simp only [VV]
     exact hN2 _ _ ⟨pass1 C s [f,a,p',d],_,nxt,by unfold pass1;rw [w];rfl,rfl⟩
   ·rintro δ h' ⟨s,x6,hs,rfl,rfl⟩
    have hs:s=passI C I:=hs
    subst hs
    have ins':=pass_ins wf ins
    cases en with
    |stop e0 =>
     obtain ⟨e1,e2⟩:=pass_false wf ins e0
     rw [e0]
     exact hN1 0 _ _ (Nat.lt_succ_self _) ⟨_,false,_,rfl,rfl,ins',fun z=>(nomatch z),fun _=>by rw [e1];exact e2⟩
    |@more _ n' e0 en =>
     rw [e0]
     exact hN1 (n' + 1) _ _ (Nat.lt_succ_self _) ⟨_,true,_,rfl,rfl,ins',fun _=>⟨n',rfl,en⟩,fun z=>nomatch z⟩
 refine for_intro fun T B hT hB=>?_
 simp only [lenD_cD,VV]
 refine ⟨rng6 c6,?_⟩
 rw [rangeD_map,Int.toNat_natCast]
 refine forL_map (fun p δ h'=>∃ (I:Ct) (x3 x4:Option D),δ=[some (cD C),some (nD st),some (.ref h.length),x3,x4,none,none,none]∧h'=h ++ [.dT none (tbD I)]∧TOk (K4 C) I∧(∀ k c,look I k=some c→(k,0) ∈ begI C)∧∀ f ∈ p,∀ F,C[f]?=some F→∀ d,d < F.facts→Z I [f,d,0,d]) ⟨[],_,_,rfl,rfl,.nil,fun k c e=>(nomatch e),fun _ z=>nomatch z⟩ (fun _ _ _ _=>Src.ok_nil) ?_ ?_
 ·rintro p f r δ h' N1 e ⟨I,x3,x4,rfl,rfl,tI,hb,hz⟩ hN1
  have fl:=(range_split e).2
  obtain ⟨F,hF⟩:∃ F,C[f]?=some F:=⟨_,List.getElem?_eq_getElem fl⟩
  obtain ⟨w1,w2,w3,w4,w5,w6⟩:=wf.fn f F hF
  subst hT;subst hB
  rw [Int.zero_add]
  refine name_in ?_
  refine for_intro fun T B hT hB=>?_
  simp only [ixD_cD hF,fD,VV]
  refine ⟨rng6 w4,?_⟩
  rw [rangeD_map,Int.toNat_natCast]
  refine forL_map (fun p2 δ h'=>∃ (I:Ct) (x4:Option D),δ=[some (cD C),some (nD st),some (.ref h.length),some (nD f),x4,none,none,none]∧h'=h ++ [.dT none (tbD I)]∧TOk (K4 C) I∧(∀ k c,look I k=some c→(k,0) ∈ begI C)∧(∀ f ∈ p,∀ F,C[f]?=some F→∀ d,d < F.facts→Z I [f,d,0,d])∧∀ d ∈ p2,Z I [f,d,0,d]) ⟨I,_,rfl,rfl,tI,hb,hz,fun _ z=>nomatch z⟩ (fun _ _ _ _=>Src.ok_nil) ?_ ?_
  ·clear tI hb hz
   rintro p2 d r2 δ h' N2 e2 ⟨I,x4,rfl,rfl,tI,hb,hz,hz2⟩ hN2
   have dl:=(range_split e2).2
   have hk:([f,d,0,d],0) ∈ begI C:=mem_begI.mpr ⟨f,F,d,hF,dl,rfl⟩
   have lI:=len4 wf sm tI
   subst hT;subst hB
   rw [Int.zero_add]
   refine name_in ?_
   simp only [VV]
   refine putH_tb (k:=[f,d,0,d]) (v:=0) (get_new ..) (Nat.lt_of_le_of_lt lI (by decide)) ?_
   rw [set_new]
   exact hN2 _ _ ⟨putT I [f,d,0,d] 0,_,rfl,rfl,tI.put (begI_ok wf _ hk),beg_put hb hk,fun f hf F hF d hd=>(hz f hf F hF d hd).put _,all_snoc (fun d hd=>(hz2 d hd).put _) (Z.new _ _)⟩
  ·clear tI hb hz
   rintro δ h' ⟨I,x4,rfl,rfl,tI,hb,hz,hz2⟩
   refine hN1 _ _ ⟨I,_,_,rfl,rfl,tI,hb,all_snoc hz fun F' hF' d hd=>?_⟩
   rw [hF] at hF';cases hF'
   exact hz2 d (List.mem_range.mpr hd)
 ·rintro δ h' ⟨I,x3,x4,rfl,rfl,tI,hb,hz⟩
  exact rest I _ _ (beg_ins tI hb hz)
theorem ok_q8{f:Addr}{fd:FuncData}(F:Fun K "_law_least" "_law_least" s_q8 f fd)(T:Txt P w K mg)(C_q13:Cal P w K mg base 2 "_law_pairs" ["_law_chart_here","_law_inside","_law_key"] (spD K 3 S_q13))(C_q9:Cal P w K mg base 1 "_law_lowered" ["_law_known","_law_pairs_here"] (spD K 2 S_q9))(C_q6:Cal P w K mg base 1 "_law_facts" ["_law_mask"] (spD K 1 S_q6))(C_q12:Cal P w K mg base 2 "_law_outer" ["_law_chart_here","_law_inside","_law_places"] (spD K 3 S_q12)):FnOk P w K mg base CX0 3 f fd ["_law_chart_here","_law_start_here"] (spD K 2 S_q8) :=
 fn_ok (k:=2) (b:=b_q8) F sc_q8 (fun cdv A outer s H E hr=>by
  refine ss_cons ?_ ?_
  ·refine s_set (i:=2) ?_ ?_ ?_ ?_
   ·exact sc_q8.nd
   ·exact rfl
   ·exact Or.inl rfl
   exact se_dnew
  refine ss_cons ?_ ?_
  ·refine s_for ?_ ?_ ?_ ?_ ?_
   ·exact PassesOwn.never
   ·exact rfl
   ·exact si_range1 rfl T.b_range (sa_cons (se_callB ok_len rfl T.b_len PySem.boot_len (sa_cons (sv 0) sa_nil)) sa_nil)
   ·exact sg_name (i:=3) sc_q8.nd rfl (Or.inl rfl)
   refine ss_one ?_
   refine s_for ?_ ?_ ?_ ?_ ?_
   ·exact PassesOwn.never
   ·exact rfl
   ·exact si_range1 rfl T.b_range (sa_cons (se_ix ok_ix (se_ix ok_ix (sv 0) (sv 3) (fun _ _=>rfl)) se_int (fun _ _=>rfl)) sa_nil)
   ·exact sg_name (i:=4) sc_q8.nd rfl (Or.inl rfl)
   refine ss_one ?_
   exact s_dput hr.units (sv 2) (se_tup (sa_cons (sv 3) (sa_cons (sv 4) (sa_cons se_int (sa_cons (sv 4) sa_nil))))) se_int
  refine ss_cons ?_ ?_
  ·refine s_set (i:=5) ?_ ?_ ?_ ?_
   ·exact sc_q8.nd
   ·exact rfl
   ·exact Or.inl rfl
   exact se_bl
  refine ss_cons ?_ ?_
  ·refine s_while ?_ ?_ ?_
   ·exact PassesOwn.never
   ·exact st_truth (sv 5)
   refine ss_cons ?_ ?_
   ·refine s_set (i:=5) ?_ ?_ ?_ ?_
    ·exact sc_q8.nd
    ·exact rfl
    ·exact Or.inl rfl
    exact se_bl
   refine ss_one ?_
   refine s_for ?_ ?_ ?_ ?_ ?_
   ·exact PassesOwn.never
   ·exact rfl
   ·exact si_seq (se_v (sn_listT rfl rfl T.b_list (sa_cons (sv 2) sa_nil)))
   ·exact sg_name (i:=6) sc_q8.nd rfl (Or.inl rfl)
   refine ss_one ?_
   refine s_if ?_ ?_ ?_
   ·exact st_truth (se_cal C_q9 (hr.mono (by decide)) rfl (sa_cons (sv 2) (sa_cons (se_cal C_q13 (hr.mono (by decide)) rfl (sa_cons (sv 0) (sa_cons (sv 2) (sa_cons (sv 6) sa_nil)))) sa_nil)))
   ·refine ss_one ?_
    refine s_set (i:=5) ?_ ?_ ?_ ?_
    ·exact sc_q8.nd
    ·exact rfl
    ·exact Or.inl rfl
    exact se_bl
   exact ss_nil
  refine ss_cons ?_ ?_
  ·refine s_set (i:=7) ?_ ?_ ?_ ?_
   ·exact sc_q8.nd
   ·exact rfl
   ·exact Or.inl rfl
   exact se_dnew
  refine ss_cons ?_ ?_
  ·refine s_for ?_ ?_ ?_ ?_ ?_
   ·exact PassesOwn.never
   ·exact rfl
   ·exact si_seq (se_cal C_q6 (hr.mono (by decide)) rfl (sa_cons (sv 1) sa_nil))
   ·exact sg_name (i:=4) sc_q8.nd rfl (Or.inl rfl)
   refine ss_one ?_
   exact s_dput hr.units (sv 7) (se_tup (sa_cons se_int (sa_cons se_int (sa_cons (sv 4) sa_nil)))) se_int
  refine ss_cons ?_ ?_
  ·refine s_while ?_ ?_ ?_
   ·exact PassesOwn.never
   ·exact st_truth (se_cal C_q9 (hr.mono (by decide)) rfl (sa_cons (sv 7) (sa_cons (se_cal C_q12 (hr.mono (by decide)) rfl (sa_cons (sv 0) (sa_cons (sv 2) (sa_cons (sv 7) sa_nil)))) sa_nil)))
   refine ss_one ?_
   refine s_set (i:=5) ?_ ?_ ?_ ?_
   ·exact sc_q8.nd
   ·exact rfl
   ·exact Or.inl rfl
   exact se_bl
  refine ss_one ?_
  refine s_ret ?_
  refine se_tup (n:=2) ?_
  refine sa_cons ?_ ?_
  ·exact sv 2
  refine sa_cons ?_ ?_
  ·exact sv 7
  exact sa_nil) imp_q8
noncomputable def b_q7:DS:=(dSeq (dAsg (dTk (dCatN (dV (dComp [none] (dISeq (dCal S_q6 (dCons (dVar 1) dNil))) (dName 0) dNoIf (dTup (dCons (dTup (dCons (dC (.int 0)) (dCons (dC (.int 0)) (dCons (dVar 0) dNil)))) (dCons (dC (.int 0)) dNil))))) (dCal S_q12 (dCons (dVar 0) (dCons (dVar 2) (dCons (dVar 3) dNil)))))) (dName 4))
  (dSeq (dFor (dISeq (dVar 4)) (dUnp 2 (dGCons (dName 5) (dGCons (dName 6) dGNil))) (dIfS (dTst (dOp pGt (dDGet2 (dVar 3) (dVar 5) (dOp pPlus (dVar 6) (dC (.int 1)))) (dVar 6))) (dRet (dC (.bl false))) dNext))
  (dSeq (dAsg (dTk dNil) (dName 4))
  (dSeq (dFor (dIRange (dCons (dCB pLen (dCons (dVar 0) dNil)) dNil)) (dName 7) (dDrop (dExtend (dVar 4) (dCons (dV (dComp [none,some 7] (dIRange (dCons (dOp pIx (dOp pIx (dVar 0) (dVar 7)) (dC (.int 1))) dNil)) (dName 0) dNoIf (dTup (dCons (dTup (dCons (dVar 1) (dCons (dVar 0) (dCons (dC (.int 0)) (dCons (dVar 0) dNil))))) (dCons (dC (.int 0)) dNil))))) dNil))))
  (dSeq (dForI (dIDict (dVar 2)) (dName 5) (dDrop (dExtend (dVar 4) (dCons (dCal S_q13 (dCons (dVar 0) (dCons (dVar 2) (dCons (dVar 5) dNil)))) dNil))))
  (dSeq (dFor (dISeq (dVar 4)) (dUnp 2 (dGCons (dName 5) (dGCons (dName 6) dGNil))) (dIfS (dTst (dOp pGt (dDGet2 (dVar 2) (dVar 5) (dOp pPlus (dVar 6) (dC (.int 1)))) (dVar 6))) (dRet (dC (.bl false))) dNext))
  (dRet (dC (.bl true)))))))))
theorem len_pairs{C:Chart}(wf:WF C)(I:Ct)(k:Kt):(pairsN C I k).length ≤ 22200:=by
 unfold pairsN
 split
 ·split
  ·rename_i F c hF hc
   exact Nat.le_trans (len_edges wf F.edges) (Nat.mul_le_mul_right 222 (wf.fn _ F hF).2.2.2.2.1)
  ·exact Nat.zero_le _
 ·exact Nat.zero_le _
noncomputable def begA(C:Chart)(f:Nat):Ct:=match C[f]? with | some F=>begF f F | none=>[]
theorem mem_begA{C:Chart}{x:Kt×Nat}:x ∈ (List.range C.length).flatMap (begA C) ↔ x ∈ begI C:=by
 rw [mem_begI,List.mem_flatMap]
 constructor
 ·rintro ⟨f,hf,h⟩
  unfold begA at h
  split at h
  ·rename_i F hF
   obtain ⟨d,hd,rfl⟩:=List.mem_map.mp h
   exact ⟨f,F,d,hF,List.mem_range.mp hd,rfl⟩
  ·cases h
 ·rintro ⟨f,F,d,hF,hd,rfl⟩
  refine ⟨f,List.mem_range.mpr (List.getElem?_eq_some_iff.mp hF).1,?_⟩
  unfold begA
  rw [hF]
  exact List.mem_map.mpr ⟨d,List.mem_range.mpr hd,rfl⟩
theorem len_begA{C:Chart}(wf:WF C)(f:Nat):(begA C f).length ≤ 6:=by
 unfold begA
 split
 ·rename_i F hF
  unfold begF
  rw [List.length_map,List.length_range];exact (wf.fn f F hF).2.2.2.1
 ·exact Nat.zero_le _
theorem chk_loop{E:DEnds}{a0 a1 a2 a3 y5 y6 x7:Option D}{h:Hh}{v i k:Nat}{z:Option Obj}{m l:Ct}(hk:h[k]?=some (.lst (l.map pkD)))(hi:h[i]?=some (.dT z (tbD m)))(hv:∀ x5 x6:Option D,[a0,a1,a2,a3,some (.ref k),x5,x6,x7][v]?=some (some (.ref i)))
  (bad:∀ x ∈ l,¬ Met m x→E.rt (.bl false) h) (good:(∀ x ∈ l,Met m x)→∀ x5 x6:Option D,E.nx [a0,a1,a2,a3,some (.ref k),x5,x6,x7] h) :
  dFor (dISeq (dVar 4)) (dUnp 2 (dGCons (dName 5) (dGCons (dName 6) dGNil))) (dIfS (dTst (dOp pGt (dDGet2 (dVar v) (dVar 5) (dOp pPlus (dVar 6) (dC (.int 1)))) (dVar 6))) (dRet (dC (.bl false))) dNext) E [a0,a1,a2,a3,some (.ref k),y5,y6,x7] h:=by
 refine for_intro fun T B hT hB=>?_
 simp only [seqSrc_ref hk,VV]
 refine forL_map (fun p δ h'=>h'=h∧(∃ x5 x6,δ=[a0,a1,a2,a3,some (.ref k),x5,x6,x7])∧∀ x ∈ p,Met m x) ⟨rfl,⟨_,_,rfl⟩,fun _ z=>nomatch z⟩ (fun p δ h' hp y hy=>by rw [List.mem_singleton.mp hy,hp.1];exact hk) ?_ ?_
 ·rintro p x r δ h' N1 e ⟨rfl,⟨x5,x6,rfl⟩,hp⟩ hN1
  have hx:x ∈ l:=by rw [e];simp
  subst hT;subst hB
  refine unp2 ?_
  (try dsimp only);refine if_intro fun A1 B1 hA hB=>?_
  simp only [hv,VV]
  refine ⟨isDD_tb hi,get_tb hi ?_⟩
  cases w:look m x.1 with
  |none =>
   have:(x.2:Int) < (x.2:Int) + 1:=by first | decide | omega
   simp only [this,VV]
   subst hA
   simp only [VV]
   exact bad x hx fun ⟨c,h1,_⟩=>by rw [w] at h1;cases h1
  |some c0 =>
   simp only [VV]
   by_cases c:(x.2:Int) < (c0:Int)
   ·simp only [c,VV]
    subst hA
    simp only [VV]
    exact bad x hx fun ⟨c',h1,h2⟩=>by rw [w] at h1;cases h1;omega
   ·simp only [c,VV]
    subst hB
    simp only [VV]
    exact hN1 _ _ ⟨rfl,⟨_,_,rfl⟩,all_snoc hp ⟨c0,w,by first | decide | omega⟩⟩
 ·rintro δ h' ⟨rfl,⟨x5,x6,rfl⟩,hp⟩
  exact good hp _ _
noncomputable def S_q7:DSp:=fun ds h Q=>∃ (C:Chart) (st i j:Nat) (I P:Ct),ds=[cD C,nD st,.ref i,.ref j]∧h[i]?=some (.dT none (tbD I))∧h[j]?=some (.dT none (tbD P))∧i ≠ j∧WF C∧Small C∧TOk (K4 C) I∧TOk (K3 C) P∧∀ b,(b=true ↔ Shut C st I P)→Q (.bl b) h
theorem imp_q7:∀ ds h Q,S_q7 ds h Q→runD 8 b_q7 ds h (Dr h Q):=by
 rintro ds h Q ⟨C,st,i,j,I,P,rfl,ei,ej,hij,wf,sm,tI,tP,q⟩
 have c6:=wf.six
 have lI:=len4 wf sm tI
 have lP:=len3 wf sm tP
 have lO:=len_outer wf lI lP
 have lb:=len6 st
 delta runD b_q7;simp only [List.map_cons,List.map_nil,List.cons_append,List.nil_append,List.length_cons,List.length_nil,List.replicate,Nat.reduceSub,Nat.reduceAdd,Nat.zero_add,Nat.sub_self]
 (try dsimp only);refine seq_intro fun N hN=>?_
 simp only [VV]
 refine ⟨st,rfl,?_⟩
 simp only [VV]
 refine ⟨by rw [List.length_map];exact Nat.le_trans lb (by decide),?_⟩
 refine comp1n (fun d=>pkD ([0,0,d],0)) Src.ok_nil none (fun d hd K k=>by simp only [VV];exact k) ?_
 refine ⟨C,i,j,I,P,rfl,ei,ej,hij,wf,tI,tP,Nat.le_trans lI (by decide),Nat.le_trans lP (by decide),?_⟩
 simp only [VV]
 refine ⟨by rw [List.length_map,List.length_map];exact Nat.le_trans (Nat.add_le_add lb lO) (by decide),?_⟩
 have e1:(facts6 st).map (fun d=>pkD ([0,0,d],0)) ++ (outerN C I P).map pkD=(begP st ++ outerN C I P).map pkD:=by rw [List.map_append];unfold begP;rw [List.map_map];rfl
 rw [e1]
 subst hN
 (try dsimp only);refine seq_intro fun N hN=>?_
 refine chk_loop (get_new ..) (app_get ej) (fun _ _=>rfl) (fun x hx hn=>?_) fun ok1 y5 y6=>?_
 ·refine Dr.drop rfl (q _ ⟨fun z=>(nomatch z),fun z=>absurd ?_ hn⟩)
  rcases List.mem_append.mp hx with hx | hx
  ·exact z.bp x hx
  ·exact z.op x hx
 ·subst hN
  (try dsimp only);refine seq_intro fun N hN=>?_
  simp only [VV]
  have l1:∀ o:O,(h ++ [o]).length=h.length + 1:=fun o=>by rw [List.length_append];rfl
  rw [l1,List.append_assoc]
  obtain ⟨o1,ho1⟩:∃ o1,o1=O.lst ((begP st ++ outerN C I P).map pkD):=⟨_,rfl⟩
  rw [← ho1]
  subst hN
  (try dsimp only);refine seq_intro fun N hN=>?_
  refine for_intro fun T B hT hB=>?_
  simp only [lenD_cD,VV]
  refine ⟨rng6 c6,?_⟩
  rw [rangeD_map,Int.toNat_natCast]
  refine forL_map (fun p δ h'=>∃ x7:Option D,δ=[some (cD C),some (nD st),some (.ref i),some (.ref j),some (.ref (h.length + 1)),y5,y6,x7]∧h'=h ++ [o1,.lst ((p.flatMap (begA C)).map pkD)]) ⟨_,rfl,rfl⟩ (fun _ _ _ _=>Src.ok_nil) ?_ ?_
  ·rintro p f r δ h' N1 e ⟨x7,rfl,rfl⟩ hN1
   have fl:=(range_split e).2
   have pl:p.length < C.length:=by
    have:p.length < (List.range C.length).length:=by rw [e];simp
    rwa [List.length_range] at this
   obtain ⟨F,hF⟩:∃ F,C[f]?=some F:=⟨_,List.getElem?_eq_getElem fl⟩
   obtain ⟨w1,w2,w3,w4,w5,w6⟩:=wf.fn f F hF
   have al:=flat_len (l:=p) (len_begA wf)
   obtain ⟨acc,ha⟩:∃ acc,acc=p.flatMap (begA C):=⟨_,rfl⟩
   have ea:begA C f=(List.range F.facts).map fun d=>([f,d,0,d],0):=by unfold begA;rw [hF];rfl
   have hN1:=hN1 _ _ ⟨some (nD f),rfl,rfl⟩
   rw [List.flatMap_append,← ha,List.flatMap_cons,List.flatMap_nil,List.append_nil,ea,List.map_append,List.map_map] at hN1
   rw [← ha] at al ⊢
   subst hT;subst hB
   rw [Int.zero_add]
   refine name_in ?_
   simp only [two_1,ixD_cD hF,fD,VV]
   refine ⟨rng6 w4,len_rng w4,?_⟩
   rw [rangeD_map,Int.toNat_natCast]
   refine comp1n (fun d=>pkD ([f,d,0,d],0)) Src.ok_nil none (fun d hd K k=>by simp only [VV];rw [Int.zero_add];exact k) ?_
   simp only [two_1,two_s1,VV]
   exact ⟨by rw [List.length_map,List.length_map,List.length_range];exact Nat.le_trans (Nat.add_le_add (Nat.le_trans al (Nat.mul_le_mul_right 6 (Nat.le_trans (Nat.le_of_lt pl) c6))) w4) (by decide),hN1⟩
  ·rintro δ h' ⟨x7,rfl,rfl⟩
   obtain ⟨bg,hbg⟩:∃ bg,bg=(List.range C.length).flatMap (begA C):=⟨_,rfl⟩
   have lbg:bg.length ≤ 36:=by
    have:=flat_len (l:=List.range C.length) (len_begA wf)
    rw [List.length_range,← hbg] at this
    exact Nat.le_trans this (Nat.mul_le_mul_right 6 c6)
   rw [← hbg]
   subst hN
   (try dsimp only);refine seq_intro fun N hN=>?_
   refine forI_intro fun T B hT hB=>?_
   refine forI_by (m:=I) (i:=i) (fun x=>tkD x.1) (src_keys rfl (app_get ei)) (fun p δ h'=>∃ (x5:Option D),δ=[some (cD C),some (nD st),some (.ref i),some (.ref j),some (.ref (h.length + 1)),x5,y6,x7]∧h'=h ++ [o1,.lst ((bg ++ (keys p).flatMap (pairsN C I)).map pkD)]) ⟨_,rfl,by simp [keys]⟩ (fun p δ h' hp=>by obtain ⟨_,_,rfl⟩:=hp;exact app_get ei) ?_ ?_
   ·rintro p x r δ h' o N1 X1 R X2 e ⟨x5,rfl,rfl⟩ hN1 hR
    obtain ⟨f,a,p',d,F,ek,hc,hF,h1,h2,h3⟩:=look4 tI e
    have pl:p.length < I.length:=by rw [e];simp
    have al:=flat_len (l:=keys p) (len_pairs wf I)
    rw [keys_len] at al
    obtain ⟨k,c⟩:=x
    have ek:k=[f,a,p',d]:=ek
    have hc:look I [f,a,p',d]=some c:=hc
    subst ek
    obtain ⟨acc,ha⟩:∃ acc,acc=bg ++ (keys p).flatMap (pairsN C I):=⟨_,rfl⟩
    have al:acc.length ≤ 7192836:=by rw [ha,List.length_append];exact Nat.add_le_add lbg (Nat.le_trans al (Nat.mul_le_mul_right 22200 (Nat.le_trans (Nat.le_of_lt pl) lI)))
    have lp:=len_pairs wf I [f,a,p',d]
    have hN1:=hN1 _ _ ⟨some (tkD [f,a,p',d]),rfl,rfl⟩
    rw [keys_snoc,List.flatMap_append,← List.append_assoc,← ha,List.flatMap_cons,List.flatMap_nil,List.append_nil,List.map_append] at hN1
    rw [← ha]
    have eI:(fz i o I (h ++ [o1,.lst (acc.map pkD)]))[i]?=some (.dT (some o) (tbD I)):=fz_get (app_get ei)
    have eL:(fz i o I (h ++ [o1,.lst (acc.map pkD)]))[h.length + 1]?=some (.lst (acc.map pkD)):=fz_app2 ei
    subst hT;subst hB
    refine name_in ?_
    simp only [eL,VV]
    refine ⟨C,i,f,a,p',d,c,some o,I,F,rfl,eI,hF,hc,wf,h3,?_⟩
    rw [← pairs_of hF hc]
    simp only [eL,fz_put2 ei,VV]
    exact ⟨by rw [List.length_map,List.length_map];exact Nat.le_trans (Nat.add_le_add al lp) (by decide),hN1⟩
   ·rintro δ h' ⟨x5,rfl,rfl⟩
    subst hN
    (try dsimp only);refine seq_intro fun N hN=>?_
    refine chk_loop two_1 (app_get ei) (fun _ _=>rfl) (fun x hx hn=>?_) fun ok2 z5 z6=>?_
    ·refine Dr.drop rfl (q _ ⟨fun z=>(nomatch z),fun z=>absurd ?_ hn⟩)
     rcases List.mem_append.mp hx with hx | hx
     ·rw [hbg] at hx;exact z.bi x (mem_begA.mp hx)
     ·obtain ⟨k,hk,hx⟩:=List.mem_flatMap.mp hx
      exact z.oi k hk x hx
    ·subst hN
     simp only [VV]
     refine Dr.drop rfl (q _ ⟨fun _=>?_,fun _=>rfl⟩)
     exact ⟨fun x hx=>ok1 x (List.mem_append_left _ hx),fun x hx=>ok1 x (List.mem_append_right _ hx),fun x hx=>ok2 x (List.mem_append_left _ (by rw [hbg];exact mem_begA.mpr hx)),fun k hk x hx=>ok2 x (List.mem_append_right _ (List.mem_flatMap.mpr ⟨k,hk,hx⟩))⟩
theorem ok_q7{f:Addr}{fd:FuncData}(F:Fun K "_law_is_shut" "_law_is_shut" s_q7 f fd)(T:Txt P w K mg)(C_q6:Cal P w K mg base 1 "_law_facts" ["_law_mask"] (spD K 1 S_q6))(C_q12:Cal P w K mg base 2 "_law_outer" ["_law_chart_here","_law_inside","_law_places"] (spD K 3 S_q12))(C_q13:Cal P w K mg base 2 "_law_pairs" ["_law_chart_here","_law_inside","_law_key"] (spD K 3 S_q13)):FnOk P w K mg base CX0 3 f fd ["_law_chart_here","_law_start_here","_law_inside","_law_places"] (spD K 4 S_q7) :=
 fn_okD (k:=2) (b:=b_q7) F sc_q7 (fun cdv A outer s H E hr=>by
  refine ss_cons ?_ ?_
  ·refine s_set (i:=4) ?_ ?_ ?_ ?_
   ·exact sc_q7.nd
   ·exact rfl
   ·exact Or.inl rfl
   exact se_t (sn_cat (se_v (sn_comp rfl (N':= ["_law_d"]) (js:=[none]) ⟨rfl,by decide +kernel,rfl,rfl,rfl⟩ (si_seq (se_cal C_q6 (hr.mono (by decide)) rfl (sa_cons (sv 1) sa_nil))) (fun s0 H0 fp=>⟨(sg_name (i:=0) (show (["_law_d"]:List Str).Nodup by decide +kernel) rfl (Or.inl rfl)),sf_nil,(se_tup (sa_cons (se_tup (sa_cons se_int (sa_cons se_int (sa_cons (sv 0) sa_nil)))) (sa_cons se_int sa_nil)))⟩))) (se_cal C_q12 (hr.mono (by decide)) rfl (sa_cons (sv 0) (sa_cons (sv 2) (sa_cons (sv 3) sa_nil)))))
  refine ss_cons ?_ ?_
  ·refine s_for ?_ ?_ ?_ ?_ ?_
   ·exact PassesOwn.never
   ·exact rfl
   ·exact si_seq (sv 4)
   ·exact sg_tup rfl (sgs_cons (sg_name (i:=5) sc_q7.nd rfl (Or.inl rfl)) (sgs_cons (sg_name (i:=6) sc_q7.nd rfl (Or.inl rfl)) sgs_nil))
   refine ss_one ?_
   refine s_if ?_ ?_ ?_
   ·exact st_cmp ok_gt (se_dget2 hr.units (sv 3) (sv 5) (se_op ok_plus (sv 6) se_int) ⟨rfl,rfl,rfl,rfl⟩) (sv 6) (nomark _)
   ·refine ss_one ?_
    refine s_ret ?_
    exact se_bl
   exact ss_nil
  refine ss_cons ?_ ?_
  ·refine s_set (i:=4) ?_ ?_ ?_ ?_
   ·exact sc_q7.nd
   ·exact rfl
   ·exact Or.inl rfl
   exact se_t (sn_lst sa_nil)
  refine ss_cons ?_ ?_
  ·refine s_for ?_ ?_ ?_ ?_ ?_
   ·exact PassesOwn.never
   ·exact rfl
   ·exact si_range1 rfl T.b_range (sa_cons (se_callB ok_len rfl T.b_len PySem.boot_len (sa_cons (sv 0) sa_nil)) sa_nil)
   ·exact sg_name (i:=7) sc_q7.nd rfl (Or.inr rfl)
   refine ss_one ?_
   refine s_expr ?_
   refine se_extend (n:=1) ?_ ?_
   ·exact sv 4
   refine sa_cons ?_ ?_
   ·refine se_v ?_
    exact sn_comp rfl (N':= ["_law_d","_law_f"]) (js:=[none,some 7]) ⟨rfl,by decide +kernel,rfl,rfl,rfl⟩ (si_range1 rfl T.b_range (sa_cons (se_ix ok_ix (se_ix ok_ix (sv 0) (sv 7) (fun _ _=>rfl)) se_int (fun _ _=>rfl)) sa_nil)) (fun s0 H0 fp=>⟨(sg_name (i:=0) (show (["_law_d","_law_f"]:List Str).Nodup by decide +kernel) rfl (Or.inl rfl)),sf_nil,(se_tup (sa_cons (se_tup (sa_cons (sv 1) (sa_cons (sv 0) (sa_cons se_int (sa_cons (sv 0) sa_nil))))) (sa_cons se_int sa_nil)))⟩)
   exact sa_nil
  refine ss_cons ?_ ?_
  ·exact s_forI PassesOwn.never rfl (si_dict (sv 2)) (sg_name (i:=5) sc_q7.nd rfl (Or.inl rfl)) (ss_one (s_expr (se_extend (sv 4) (sa_cons (se_cal C_q13 (hr.mono (by decide)) rfl (sa_cons (sv 0) (sa_cons (sv 2) (sa_cons (sv 5) sa_nil)))) sa_nil))))
  refine ss_cons ?_ ?_
  ·refine s_for ?_ ?_ ?_ ?_ ?_
   ·exact PassesOwn.never
   ·exact rfl
   ·exact si_seq (sv 4)
   ·exact sg_tup rfl (sgs_cons (sg_name (i:=5) sc_q7.nd rfl (Or.inl rfl)) (sgs_cons (sg_name (i:=6) sc_q7.nd rfl (Or.inl rfl)) sgs_nil))
   refine ss_one ?_
   refine s_if ?_ ?_ ?_
   ·exact st_cmp ok_gt (se_dget2 hr.units (sv 2) (sv 5) (se_op ok_plus (sv 6) se_int) ⟨rfl,rfl,rfl,rfl⟩) (sv 6) (nomark _)
   ·refine ss_one ?_
    refine s_ret ?_
    exact se_bl
   exact ss_nil
  refine ss_one ?_
  refine s_ret ?_
  exact se_bl) imp_q7
noncomputable def b_q24:DS:=(dSeq (dForI (dIItems (dVar 1)) (dUnp 2 (dGCons (dName 2) (dGCons (dName 3) dGNil))) (dFor (dISeq (dCal S_q20 (dCons (dVar 0) (dCons (dOp pIx (dVar 2) (dC (.int 0))) (dCons (dOp pIx (dVar 2) (dC (.int 2))) dNil))))) (dUnp 2 (dGCons (dName 4) (dGCons (dName 5) dGNil))) (dSeq (dAsg (dTup (dCons (dOp pIx (dVar 2) (dC (.int 0))) (dCons (dOp pIx (dVar 2) (dC (.int 1))) (dCons (dOp pIx (dVar 5) (dC (.int 2))) dNil)))) (dName 6))
  (dSeq (dAsg (dOp pPlus (dVar 3) (dOp pIx (dVar 5) (dC (.int 3)))) (dName 7))
  (dSeq (dIfS (dNot (dTr (dCal S_q18 (dCons (dVar 1) (dCons (dVar 6) (dCons (dOp pIx (dCal S_q30 (dCons (dVar 5) dNil)) (dOp pIx (dVar 2) (dC (.int 3)))) (dCons (dVar 7) dNil))))))) (dRet (dC (.bl false))) dNext)
  (dIfS (dAnd (dTst (dOp (pEq false) (dOp pIx (dVar 5) (dC (.int 0))) (dC (.str "call")))) (dNot (dTr (dCal S_q28 (dCons (dVar 0) (dCons (dVar 1) (dCons (dVar 6) (dCons (dVar 5) (dCons (dOp pIx (dVar 2) (dC (.int 3))) (dCons (dVar 7) dNil)))))))))) (dRet (dC (.bl false))) dNext))))))
  (dRet (dC (.bl true))))
noncomputable def S_q24:DSp:=fun ds h Q=>∃ (C:Chart) (i:Nat) (I:Ct),ds=[cD C,.ref i]∧h[i]?=some (.dT none (tbD I))∧WF C∧TOk (K4 C) I∧∀ b,(b=true ↔ ∀ k ∈ keys I,∀ x ∈ pairsN C I k,Met I x)→Q (.bl b) h
theorem imp_q24:∀ ds h Q,S_q24 ds h Q→runD 8 b_q24 ds h Q:=by
 rintro ds h Q ⟨C,i,I,rfl,ei,wf,tk,q⟩
 delta runD b_q24;simp only [List.map_cons,List.map_nil,List.cons_append,List.nil_append,List.length_cons,List.length_nil,List.replicate,Nat.reduceSub,Nat.reduceAdd,Nat.zero_add,Nat.sub_self]
 (try dsimp only);refine seq_intro fun N hN=>?_
 refine forI_intro fun T B hT hB=>?_
 refine forI_by pkD (src_items rfl ei) (fun p δ h'=>h'=h∧(∃ x2 x3 x4 x5 x6 x7,δ=[some (cD C),some (.ref i),x2,x3,x4,x5,x6,x7])∧∀ y ∈ p,∀ x ∈ pairsN C I y.1,Met I x) ⟨rfl,⟨_,_,_,_,_,_,rfl⟩,fun _ z=>nomatch z⟩ (fun p δ h' hp=>by rw [hp.1];exact ei) ?_ ?_
 ·rintro p x r δ h' o N1 X1 R X2 e ⟨rfl,⟨x2,x3,x4,x5,x6,x7,rfl⟩,hp⟩ hN1 hR
  obtain ⟨f,a,p',d,F,ek,hc,hF,h1,h2,h3⟩:=look4 tk e
  have kin:=key_in e
  obtain ⟨k,c⟩:=x
  have ek:k=[f,a,p',d]:=ek
  have hc:look I [f,a,p',d]=some c:=hc
  subst ek
  have eI:(fz i o I h')[i]?=some (.dT (some o) (tbD I)):=fz_get ei
  have ea:=pairs_of hF hc
  obtain ⟨w1,w2,w3,w4,w5,w6⟩:=wf.fn f F hF
  subst hT;subst hB
  refine unp2 ?_
  refine for_intro fun T B hT hB=>?_
  simp only [tkD,VV]
  refine ⟨C,f,p',F,rfl,hF,w5,?_⟩
  simp only [VV]
  refine forL_map (fun p2 δ h''=>h''=fz i o I h'∧(∃ x4 x5 x6 x7,δ=[some (cD C),some (.ref i),some (.tup [nD f,nD a,nD p',nD d]),some (nD c),x4,x5,x6,x7])∧∀ y ∈ p2,∀ x ∈ edgeP C I f a p' d c y.1,Met I x) ⟨rfl,⟨_,_,_,_,rfl⟩,fun _ z=>nomatch z⟩ (fun _ _ _ _=>Src.ok_nil) ?_ ?_
  ·rintro p2 ⟨E,n⟩ r2 δ h'' N2 e2 ⟨rfl,⟨x4,x5,x6,x7,rfl⟩,hp2⟩ hN2
   obtain ⟨hE,hEp⟩:=mem_from (show (E,n) ∈ fromE F p' by rw [e2];simp)
   have eok:=w6 E hE
   have t3:=over_ok eok
   have n64:=bits64 (d:=d) t3 w4
   have bad:∀ x,x ∈ edgeP C I f a p' d c E→¬ Met I x→R (.bl false) (fz i o I h'):=fun x hx hn=>hR _ _ ei (q _ ⟨fun z=>(nomatch z),fun z=>absurd (z _ kin x (by rw [ea];exact List.mem_flatMap.mpr ⟨_,hE,hx⟩)) hn⟩)
   subst hT;subst hB
   refine unp2 ?_
   (try dsimp only);refine seq_intro fun N hN=>?_
   simp only [eD_2,VV]
   subst hN
   (try dsimp only);refine seq_intro fun N hN=>?_
   simp only [eD_3,VV]
   subst hN
   (try dsimp only);refine seq_intro fun N hN=>?_
   simp only [VV]
   refine ⟨E,rfl,?_⟩
   simp only [tD_ix (fz i o I h') t3 h3,VV]
   refine ⟨i,some o,I,[f,a,E.q],(overT E).getD d 0,c + E.cost,by rw [nD_add];rfl,eI,fun z=>(nomatch z),by show 3 ≤ 10;decide,n64,fun b hbb=>?_⟩
   simp only [VV]
   cases b with
   |false =>
    simp only [VV]
    refine Classical.byContradiction fun nr=>?_
    have:=hbb.mpr fun e he=>Classical.byContradiction fun nm=>nr (bad _ (mem_edge.mpr ⟨hEp,.inl (mem_over.mpr ⟨e,he,rfl⟩)⟩) nm)
    cases this
   |true =>
    simp only [VV]
    subst hN
    obtain ⟨ep,eq,ec,ekk⟩:=E
    cases ekk with
    |step t =>
     simp only [eD,VV]
     refine hN2 _ _ ⟨rfl,⟨_,_,_,_,rfl⟩,all_snoc hp2 fun x hx=>?_⟩
     rcases (mem_edge.mp hx).2 with hx | hx
     ·obtain ⟨e,he,rfl⟩:=mem_over.mp hx
      exact hbb.mp rfl e he
     ·cases hx
    |call g ti t oo =>
     obtain ⟨_,_,_,_,G,hG,t1,t2,_⟩:=eok
     obtain ⟨g1,g2,g3,g4,g5,g6⟩:=wf.fn g G hG
     simp only [eD,VV]
     refine ⟨C,i,d,c + ec,g,some o,I,[f,a,eq],⟨ep,eq,ec,.call g ti t oo⟩,F,G,ti,t,oo,by rw [nD_add];rfl,eI,rfl,hG,t1,t2,w4,g4,g1,fun z=>(nomatch z),by show 3 ≤ 10;decide,h3,fun b2 hb2=>?_⟩
     simp only [VV]
     cases b2 with
     |false =>
      simp only [VV]
      refine Classical.byContradiction fun nr=>?_
      have:=hb2.mpr fun b' hb' y hy x hx=>Classical.byContradiction fun nm=>nr (bad x (mem_edge.mpr ⟨hEp,.inr (by
       obtain ⟨c',ee,q1,q2,q3⟩:=mem_short.mp hx
       exact mem_call.mpr ⟨g,ti,t,oo,G,b',y,c',ee,rfl,hG,hb',hy,q1,q2,q3⟩)⟩) nm)
      cases this
     |true =>
      simp only [VV]
      refine hN2 _ _ ⟨rfl,⟨_,_,_,_,rfl⟩,all_snoc hp2 fun x hx=>?_⟩
      rcases (mem_edge.mp hx).2 with hx | hx
      ·obtain ⟨e,he,rfl⟩:=mem_over.mp hx
       exact hbb.mp rfl e he
      ·obtain ⟨g',ti',t',oo',G',b',y,c',ee,hk,hG',hb',hy,q1,q2,q3⟩:=mem_call.mp hx
       cases hk
       rw [hG] at hG';cases hG'
       exact hb2.mp rfl b' hb' y hy x (mem_short.mpr ⟨c',ee,q1,q2,q3⟩)
  ·rintro δ h'' ⟨rfl,⟨x4,x5,x6,x7,rfl⟩,hp2⟩
   refine hN1 _ _ ⟨rfl,⟨_,_,_,_,_,_,rfl⟩,all_snoc hp fun x hx=>?_⟩
   rw [ea] at hx
   obtain ⟨E,hE,hx⟩:=List.mem_flatMap.mp hx
   obtain ⟨n,hn⟩:=from_mem hE (mem_edge.mp hx).1
   exact hp2 _ hn _ hx
 ·rintro δ h' ⟨rfl,⟨x2,x3,x4,x5,x6,x7,rfl⟩,hp⟩
  subst hN
  simp only [VV]
  exact q _ ⟨fun _=>all_keys hp,fun _=>rfl⟩
theorem ok_q24{f:Addr}{fd:FuncData}(F:Fun K "inside_is_shut" "inside_is_shut" s_q24 f fd)(T:Txt P w K mg)(C_q20:Cal P w K mg base 1 "edges_from" ["chart","f","p"] (spD K 3 S_q20))(C_q30:Cal P w K mg base 1 "table_past" ["edge"] (spD K 1 S_q30))(C_q18:Cal P w K mg base 2 "are_told" ["costs","behind","mask","cost"] (spD K 4 S_q18))(C_q28:Cal P w K mg base 3 "shorts_are_told" ["chart","inside","behind","edge","d","spent"] (spD K 6 S_q28)):FnOk P w K mg base CX0 4 f fd ["chart","inside"] (spD K 2 S_q24) :=
 fn_ok (k:=3) (b:=b_q24) F sc_q24 (fun cdv A outer s H E hr=>by
  refine ss_cons ?_ ?_
  ·exact s_forI PassesOwn.never rfl (si_items (sv 1)) (sg_tup rfl (sgs_cons (sg_name (i:=2) sc_q24.nd rfl (Or.inl rfl)) (sgs_cons (sg_name (i:=3) sc_q24.nd rfl (Or.inl rfl)) sgs_nil))) (ss_one (s_for PassesOwn.never rfl (si_seq (se_cal C_q20 (hr.mono (by decide)) rfl (sa_cons (sv 0) (sa_cons (se_ix ok_ix (sv 2) se_int (fun _ _=>rfl)) (sa_cons (se_ix ok_ix (sv 2) se_int (fun _ _=>rfl)) sa_nil))))) (sg_tup rfl (sgs_cons (sg_name (i:=4) sc_q24.nd rfl (Or.inl rfl)) (sgs_cons (sg_name (i:=5) sc_q24.nd rfl (Or.inl rfl)) sgs_nil))) (ss_cons (s_set (i:=6) sc_q24.nd rfl (Or.inl rfl) (se_tup (sa_cons (se_ix ok_ix (sv 2) se_int (fun _ _=>rfl)) (sa_cons (se_ix ok_ix (sv 2) se_int (fun _ _=>rfl)) (sa_cons (se_ix ok_ix (sv 5) se_int (fun _ _=>rfl)) sa_nil)))))     (ss_cons (s_set (i:=7) sc_q24.nd rfl (Or.inl rfl) (se_op ok_plus (sv 3) (se_ix ok_ix (sv 5) se_int (fun _ _=>rfl))))     (ss_cons (s_if (st_not (st_truth (se_cal C_q18 (hr.mono (by decide)) rfl (sa_cons (sv 1) (sa_cons (sv 6) (sa_cons (se_ix ok_ix (se_cal C_q30 (hr.mono (by decide)) rfl (sa_cons (sv 5) sa_nil)) (se_ix ok_ix (sv 2) se_int (fun _ _=>rfl)) (fun _ _=>rfl)) (sa_cons (sv 7) sa_nil))))))) (ss_one (s_ret se_bl)) ss_nil)     (ss_one (s_if (st_w (sw_and (st_cmp (ok_eq hr.units) (se_ix ok_ix (sv 5) se_int (fun _ _=>rfl)) se_str (nomark _)) (sw_and1 (st_not (st_truth (se_cal C_q28 (hr.mono (by decide)) rfl (sa_cons (sv 0) (sa_cons (sv 1) (sa_cons (sv 6) (sa_cons (sv 5) (sa_cons (se_ix ok_ix (sv 2) se_int (fun _ _=>rfl)) (sa_cons (sv 7) sa_nil)))))))))))) (ss_one (s_ret se_bl)) ss_nil)))))))
  refine ss_one ?_
  refine s_ret ?_
  exact se_bl) imp_q24
noncomputable def b_q2:DS:=(dSeq (dAsg (dTk dNil) (dName 5))
  (dSeq (dFor (dIRange (dCons (dOp pPlus (dC (.int 1)) (dOp pMod (dCal S_q0 (dCons (dVar 0) (dCons (dC (.int 0)) dNil))) (dVar 2))) dNil)) (dName 6) (dSeq (dAsg (dOp pDiv (dCal S_q0 (dCons (dVar 0) (dCons (dOp pPlus (dC (.int 1)) (dVar 6)) dNil))) (dC (.int 2))) (dName 7))
  (dDrop (dAppend (dVar 5) (dCons (dTup (dCons (dOp pPlus (dC (.int 1)) (dOp pMod (dVar 7) (dVar 3))) (dCons (dOp pPlus (dC (.int 1)) (dOp pMod (dOp pDiv (dVar 7) (dC (.int 16))) (dVar 4))) dNil))) dNil)))))
  (dSeq (dAsg (dV (dComp [none] (dISeq (dVar 5)) (dName 0) dNoIf (dTk dNil))) (dName 8))
  (dSeq (dFor (dIEnum (dCons (dSl (dVar 0) (dPart (dVar 1)) (dPart (dOp pPlus (dVar 1) (dC (.int 14))))) dNil)) (dUnp 2 (dGCons (dName 9) (dGCons (dName 7) dGNil))) (dSeq (dAsg (dOp pMod (dOp pPlus (dOp pDiv (dVar 7) (dC (.int 5))) (dVar 9)) (dCB pLen (dCons (dVar 5) dNil))) (dName 6))
  (dDrop (dAppend (dOp pIx (dVar 8) (dVar 6)) (dCons (dCal S_q5 (dCons (dVar 7) (dCons (dVar 5) (dCons (dVar 6) (dCons (dC (.int 2)) dNil))))) dNil)))))
  (dRet (dV (dComp [none,some 5,some 8] (dIRange (dCons (dCB pLen (dCons (dVar 5) dNil)) dNil)) (dName 0) dNoIf (dTup (dCons (dOp pIx (dOp pIx (dVar 1) (dVar 0)) (dC (.int 0))) (dCons (dOp pIx (dOp pIx (dVar 1) (dVar 0)) (dC (.int 1))) (dCons (dOp pIx (dVar 2) (dVar 0)) dNil)))))))))))
noncomputable def eO(l:List Edge):O:=.lst (l.map eD)
theorem tl_get{h:Hh}{o:O}{es:List (List Edge)}{f:Nat}{l:List Edge}(e:es[f]?=some l):(h ++ (o :: es.map eO))[h.length + 1 + f]?=some (eO l):=by
 rw [List.getElem?_append_right (by first | decide | omega),show h.length + 1 + f - h.length=f + 1 by first | decide | omega]
 show (o :: es.map eO)[f + 1]?=_
 rw [List.getElem?_cons_succ,List.getElem?_map,e];rfl
theorem tl_set{h:Hh}{o:O}{es:List (List Edge)}{f:Nat}{l:List Edge}:(h ++ (o :: es.map eO)).set (h.length + 1 + f) (eO l)=h ++ (o :: (es.set f l).map eO):=by
 rw [List.set_append_right _ _ (by first | decide | omega),show h.length + 1 + f - h.length=f + 1 by first | decide | omega]
 show h ++ (o :: es.map eO).set (f + 1) (eO l)=_
 rw [List.set_cons_succ,List.map_set]
theorem tl_hd{h:Hh}{o:O}{g:Hh}:(h ++ (o :: g))[h.length]?=some o:=by
 rw [List.getElem?_append_right (Nat.le_refl _)];simp
theorem cut_ints(ns:List Int)(lo hi:Option Int):∃ ms:List Int,cutD (ns.map D.int) lo hi=ms.map D.int∧ms.length ≤ ns.length:=by
 refine ⟨(ns.drop (HT.sIx ns.length 0 lo)).take (HT.sIx ns.length ns.length hi - HT.sIx ns.length 0 lo),?_,?_⟩
 ·unfold cutD;rw [List.length_map,← List.map_drop,← List.map_take]
 ·exact Nat.le_trans (List.length_take_le' ..) (by rw [List.length_drop];exact Nat.sub_le ..)
noncomputable def mkC(hs:Hd)(es:List (List Edge)):Chart:=(hs.zip es).map fun x=>⟨x.1.1,x.1.2,x.2⟩
theorem mkC_get{hs:Hd}{es:List (List Edge)}(hl:es.length=hs.length){f:Nat}{F:Fn}(e:(mkC hs es)[f]?=some F):∃ x l,hs[f]?=some x∧es[f]?=some l∧F=⟨x.1,x.2,l⟩:=by
 unfold mkC at e
 rw [List.getElem?_map] at e
 cases q:(hs.zip es)[f]? with
 |none=>rw [q] at e;cases e
 |some y =>
  rw [q] at e
  cases e
  rw [List.getElem?_zip_eq_some] at q
  exact ⟨y.1,y.2,q.1,q.2,rfl⟩
theorem mkC_at{hs:Hd}{es:List (List Edge)}{f:Nat}{x:Nat×Nat}{l:List Edge}(h1:hs[f]?=some x)(h2:es[f]?=some l):(mkC hs es)[f]?=some ⟨x.1,x.2,l⟩:=by
 unfold mkC
 rw [List.getElem?_map,List.getElem?_zip_eq_some (z:=(x,l)) |>.mpr ⟨h1,h2⟩];rfl
theorem mkC_wf{hs:Hd}{es:List (List Edge)}(ok:hOk hs)(h1:1 ≤ hs.length)(h6:hs.length ≤ 6)(hl:es.length=hs.length)(he:∀ (f:Nat) (x:Nat×Nat) (l:List Edge),hs[f]?=some x→es[f]?=some l→l.length ≤ 100∧∀ e ∈ l,eOkH hs x e):WF (mkC hs es):=by
 have len:(mkC hs es).length=hs.length:=by unfold mkC;rw [List.length_map,List.length_zip,hl];omega
 refine ⟨by first | decide | omega,by first | decide | omega,fun f F hF=>?_⟩
 obtain ⟨x,l,hx,hl',rfl⟩:=mkC_get hl hF
 obtain ⟨o1,o2,o3,o4⟩:=ok f x hx
 obtain ⟨o5,o6⟩:=he f x l hx hl'
 refine ⟨o1,Nat.le_trans o2 (by decide),o3,o4,o5,fun e hm=>?_⟩
 obtain ⟨p1,p2,p3,p4,p5⟩:=o6 e hm
 refine ⟨p1,p2,p3,p4,?_⟩
 obtain ⟨a,b,c,k⟩:=e
 cases k with
 |step t=>exact p5
 |call g i b o =>
  obtain ⟨y,hy,t1,t2,t3⟩:=p5
  have hg:g < es.length:=by rw [hl];exact (List.getElem?_eq_some_iff.mp hy).1
  exact ⟨⟨y.1,y.2,es[g]⟩,mkC_at hy (List.getElem?_eq_getElem hg),t1,t2,t3⟩
theorem mkC_len{hs:Hd}{es:List (List Edge)}(hl:es.length=hs.length):(mkC hs es).length=hs.length:=by unfold mkC;rw [List.length_map,List.length_zip,hl];omega
theorem mkC_small{hs:Hd}{es:List (List Edge)}(ok:hOk hs)(h3:hs.length ≤ 3)(hl:es.length=hs.length):Small (mkC hs es):=by
 refine ⟨by rw [mkC_len hl];exact h3,fun f F hF=>?_⟩
 obtain ⟨x,l,hx,hl',rfl⟩:=mkC_get hl hF
 exact (ok f x hx).2.1
theorem hOk.snoc{hs:Hd}(ok:hOk hs){a b:Nat}(h:1 ≤ a∧a ≤ 3∧1 ≤ b∧b ≤ 6):hOk (hs ++ [(a,b)]):=fun f x hx=>by
 by_cases hf:f < hs.length
 ·rw [List.getElem?_append_left hf] at hx;exact ok f x hx
 ·rw [List.getElem?_append_right (by first | decide | omega)] at hx
  have:f - hs.length=0:=by
   have:=(List.getElem?_eq_some_iff.mp hx).1
   simp at this;omega
  rw [this] at hx
  cases hx
  exact h
noncomputable def esOk(hs:Hd)(es:List (List Edge))(n:Nat):Prop:=es.length=hs.length∧∀ (f:Nat) (x:Nat×Nat) (l:List Edge),hs[f]?=some x→es[f]?=some l→l.length ≤ n∧∀ e ∈ l,eOkH hs x e
theorem esOk.nil(hs:Hd):esOk hs (List.replicate hs.length []) 0:=⟨by simp,fun f x l hf hl2=>by
 have:=List.eq_of_mem_replicate (List.mem_of_getElem? hl2)
 subst this
 exact ⟨Nat.zero_le _,fun e he=>nomatch he⟩⟩
theorem esOk.put{hs:Hd}{es:List (List Edge)}{n f:Nat}{x:Nat×Nat}{l:List Edge}{E:Edge}(h:esOk hs es n)(hx:hs[f]?=some x)(hl2:es[f]?=some l)(hE:eOkH hs x E):esOk hs (es.set f (l ++ [E])) (n + 1):=by
 obtain ⟨hel,hes⟩:=h
 have fl:=(List.getElem?_eq_some_iff.mp hl2).1
 refine ⟨by rw [List.length_set];exact hel,fun f' x' l' hx' hl'=>?_⟩
 obtain ⟨q1,q2⟩:=hes f x l hx hl2
 by_cases z:f=f'
 ·subst z
  rw [hx] at hx';cases hx'
  rw [List.getElem?_set_self fl] at hl'
  cases hl'
  refine ⟨by rw [List.length_append];exact Nat.succ_le_succ q1,fun e9 he9=>?_⟩
  rcases List.mem_append.mp he9 with w | w
  ·exact q2 e9 w
  ·rw [List.mem_singleton.mp w];exact hE
 ·rw [List.getElem?_set_ne z] at hl'
  obtain ⟨u1,u2⟩:=hes f' x' l' hx' hl'
  exact ⟨Nat.le_succ_of_le u1,u2⟩
theorem esOk.wf{hs:Hd}{es:List (List Edge)}{n:Nat}(h:esOk hs es n)(ok:hOk hs)(h1:1 ≤ hs.length)(h6:hs.length ≤ 6)(hn:n ≤ 100):WF (mkC hs es):=mkC_wf ok h1 h6 h.1 fun f x l a b=>⟨Nat.le_trans (h.2 f x l a b).1 hn,(h.2 f x l a b).2⟩
theorem chart_vw{h h':Hh}{hs:Hd}{es:List (List Edge)}{n k:Nat}(hel:es.length=hs.length)(hn:h.length ≤ n)(hk:hs.length=k)(tg:∀ (f:Nat) (l:List Edge),es[f]?=some l→h'[n + f]?=some (.lst (l.map eD))) :
  Vw h.length h' (.lst ((List.range k).map fun f=>.tup [nD (hs.getD f (0,0)).1,nD (hs.getD f (0,0)).2,.ref (n + f)])) (cD (mkC hs es)):=by
 have len:=mkC_len hel
 refine .lst (.of_get (by rw [List.length_map,List.length_map,List.length_range,len,hk]) fun f x y hx hy=>?_)
 rw [List.getElem?_map] at hx hy
 have fl:f < k:=by
  rcases Nat.lt_or_ge f k with z | z
  ·exact z
  ·rw [List.getElem?_eq_none (by rw [List.length_range];exact z)] at hx;cases hx
 rw [List.getElem?_range fl] at hx
 cases hx
 obtain ⟨xx,hxx⟩:∃ x,hs[f]?=some x:=⟨_,List.getElem?_eq_getElem (by first | decide | omega)⟩
 obtain ⟨l,hl2⟩:∃ l,es[f]?=some l:=⟨_,List.getElem?_eq_getElem (by first | decide | omega)⟩
 rw [mkC_at hxx hl2] at hy
 cases hy
 dsimp only
 rw [List.getD_eq_getElem?_getD,hxx]
 exact .tup (.cons (.nr rfl) (.cons (.nr rfl) (.cons (.opn (by first | decide | omega) (tg f l hl2) (.of (nrDs_map nrD_eD l))) .nil)))
noncomputable def S_q2:DSp:=fun ds h Q=>∃ (ns:List Int),ds=[.scr (ns.map .int),.int 6,.int 3,.int 3,.int 3]∧ns.length ≤ 63∧(∀ x ∈ ns,Builtin.Int.intBits x ≤ 1048576)∧∀ C,WF C→Small C→Q (cD C) h
theorem imp_q2:∀ ds h Q,S_q2 ds h Q→runD 10 b_q2 ds h (Dr h Q):=by
 rintro ds h Q ⟨ns,rfl,hl,hb,q⟩
 delta runD b_q2;simp only [List.map_cons,List.map_nil,List.cons_append,List.nil_append,List.length_cons,List.length_nil,List.replicate,Nat.reduceSub,Nat.reduceAdd,Nat.zero_add,Nat.sub_self]
 (try dsimp only);refine seq_intro fun N hN=>?_
 simp only [VV]
 subst hN
 (try dsimp only);refine seq_intro fun N hN=>?_
 refine for_intro fun T B hT hB=>?_
 simp only [VV]
 refine ⟨ns,0,rfl,hl,hb,by first | decide | omega,fun r hr=>?_⟩
 simp only [VV]
 obtain ⟨n,hn,n1,n3⟩:=one3 r
 refine ⟨by decide,by rw [hn];exact rng10 (Nat.le_trans n3 (by decide)),?_⟩
 rw [hn,Int.toNat_natCast,rangeD_map]
 refine forL_map (fun p δ h'=>∃ (hs:Hd) (x6 x7:Option D),δ=[some (.scr (ns.map .int)),some (.int 6),some (.int 3),some (.int 3),some (.int 3),some (.ref h.length),x6,x7,none,none]∧h'=h ++ [.lst (hs.map pD)]∧hs.length=p.length∧hOk hs) ⟨[],none,none,rfl,rfl,rfl,fun f x e=>by simp at e⟩ (fun _ _ _ _=>Src.ok_nil) ?_ ?_
 ·rintro p d r' δ h' N1 e ⟨hs,x6,x7,rfl,rfl,hlen,ok⟩ hN1
  obtain ⟨hdp,hd⟩:=range_split e
  subst hT;subst hB
  refine name_in ?_
  (try dsimp only);refine seq_intro fun N hN=>?_
  simp only [VV]
  refine ⟨ns,1 + d,by rw [show (1:Int) + (0 + (d:Int))=((1 + d:Nat):Int) by first | decide | omega],hl,hb,by first | decide | omega,fun r2 hr2=>?_⟩
  simp only [VV]
  refine ⟨by first | decide | omega,?_⟩
  subst hN
  have ng:=get_new h (.lst (hs.map pD))
  simp only [ng,set_new,List.length_map,VV]
  refine ⟨by first | decide | omega,by first | decide | omega,by first | decide | omega,by first | decide | omega,?_⟩
  obtain ⟨a,ha,a1,a3⟩:=one3 (r2 / 2)
  obtain ⟨b,hb,b1,b3⟩:=one3 (r2 / 2 / 16)
  rw [ha,hb]
  refine hN1 _ _ ⟨hs ++ [(a,b)],_,_,rfl,by rw [List.map_append];rfl,by simp [hlen],ok.snoc ⟨a1,a3,b1,Nat.le_trans b3 (by decide)⟩⟩
 ·rintro δ h' ⟨hs,x6,x7,rfl,rfl,hlen,ok⟩
  rw [List.length_range] at hlen
  subst hN
  (try dsimp only);refine seq_intro fun N hN=>?_
  have src:=seqSrc_ref (get_new h (.lst (hs.map pD)))
  simp only [src,VV]
  refine ⟨by rw [List.length_map];omega,?_⟩
  refine compL_map (g:=pD) (fun p acc δ h'=>(∃ o,δ=[o])∧acc=(List.range p.length).map (fun j=>.ref (h.length + 1 + j))∧h'=h ++ (.lst (hs.map pD) :: (List.replicate p.length ([]:List Edge)).map eO)) ⟨⟨none,rfl⟩,rfl,by simp⟩ ?_ ?_ ?_
  ·rintro p acc δ h' ⟨_,_,rfl⟩ z hz
   rw [List.mem_singleton.mp hz];exact tl_hd
  ·rintro p y r' acc δ h' N1 e ⟨⟨o,rfl⟩,rfl,rfl⟩ hN1
   simp only [VV]
   refine hN1 _ _ _ ⟨⟨_,rfl⟩,?_,?_⟩
   ·rw [show (p ++ [y]).length=p.length + 1 by simp,List.range_succ,List.map_append]
    simp;omega
   ·rw [show (p ++ [y]).length=p.length + 1 by simp,List.replicate_succ',List.map_append]
    simp [eO]
  ·rintro acc δ h' ⟨⟨o,rfl⟩,rfl,rfl⟩
   subst hN
   (try dsimp only);refine seq_intro fun N hN=>?_
   obtain ⟨ms,hms,hml⟩:=cut_ints ns (some 6) (some (6 + 14))
   refine for_intro fun T B hT hB=>?_
   simp only [hms,VV]
   rw [enumD_map]
   refine forL_map (fun p δ h'=>∃ (es:List (List Edge)) (x6 x7 x9:Option D),δ=[some (.scr (ns.map .int)),some (.int 6),some (.int 3),some (.int 3),some (.int 3),some (.ref h.length),x6,x7,some (.lst ((List.range hs.length).map (fun j=>.ref (h.length + 1 + j)))),x9]∧h'=h ++ (.lst (hs.map pD) :: es.map eO)∧esOk hs es p.length) ⟨List.replicate hs.length [],_,_,_,rfl,rfl,esOk.nil hs⟩ (fun _ _ _ _=>Src.ok_nil) ?_ ?_
   ·rintro p y r' δ h' N1 e ⟨es,x6,x7,x9,rfl,rfl,hes⟩ hN1
    obtain ⟨cl,kk⟩:=y
    subst hT;subst hB
    refine unp2 ?_
    (try dsimp only);refine seq_intro fun N hN=>?_
    have hel:=hes.1
    have hg0:lsOf (h ++ (.lst (hs.map pD) :: es.map eO)) (.ref h.length)=some (hs.map pD):=lsOf_ref tl_hd
    simp only [len_ls hg0,List.length_map,VV]
    refine ⟨by first | decide | omega,by first | decide | omega,?_⟩
    have f0:=Int.emod_nonneg (cl / 5 + (0 + (kk:Int))) (show (hs.length:Int) ≠ 0 by first | decide | omega)
    have f1:=Int.emod_lt_of_pos (cl / 5 + (0 + (kk:Int))) (show (0:Int) < hs.length by first | decide | omega)
    obtain ⟨f,hf⟩:∃ f:Nat,(cl / 5 + (0 + (kk:Int))) % (hs.length:Int)=(f:Int):=⟨_,(Int.toNat_of_nonneg f0).symm⟩
    rw [hf] at f1 ⊢
    have fl:f < hs.length:=by first | decide | omega
    obtain ⟨x,hx⟩:∃ x,hs[f]?=some x:=⟨_,List.getElem?_eq_getElem fl⟩
    obtain ⟨l,hl2⟩:∃ l,es[f]?=some l:=⟨_,List.getElem?_eq_getElem (by first | decide | omega)⟩
    have ixe:atI ((List.range hs.length).map (fun j=>D.ref (h.length + 1 + j))) (f:Int)=some (.ref (h.length + 1 + f)):=by rw [atN,List.getElem?_map,List.getElem?_range fl];rfl
    have tg:(h ++ (O.lst (hs.map pD) :: es.map eO))[h.length + 1 + f]?=some (.lst (l.map eD)):=tl_get hl2
    subst hN
    simp only [ixe,tg,VV]
    refine ⟨cl,.ref h.length,hs,f,2,x,rfl,hg0,hx,ok,by first | decide | omega,by first | decide | omega,by first | decide | omega,fun E hE=>?_⟩
    simp only [tg,List.length_map,VV]
    have q1:=(hes.2 f x l hx hl2).1
    have pl:p.length < ms.zipIdx.length:=by rw [e];simp
    rw [List.length_zipIdx] at pl
    have se:(h ++ (O.lst (hs.map pD) :: es.map eO)).set (h.length + 1 + f) (.lst (l.map eD ++ [eD E]))=h ++ (O.lst (hs.map pD) :: (es.set f (l ++ [E])).map eO):=by
     rw [← tl_set];unfold eO;rw [List.map_append];rfl
    rw [se]
    exact ⟨by first | decide | omega,hN1 _ _ ⟨es.set f (l ++ [E]),_,_,_,rfl,rfl,by rw [List.length_append];exact hes.put hx hl2 hE⟩⟩
   ·rintro δ h' ⟨es,x6,x7,x9,rfl,rfl,hes⟩
    subst hN
    have hel:=hes.1
    have hg0:lsOf (h ++ (.lst (hs.map pD) :: es.map eO)) (.ref h.length)=some (hs.map pD):=lsOf_ref tl_hd
    simp only [len_ls hg0,List.length_map,VV]
    have h3:hs.length ≤ 6:=by rw [hlen];exact Nat.le_trans n3 (by decide)
    refine ⟨rng6 h3,len_rng h3,?_⟩
    rw [rangeD_map,Int.toNat_natCast]
    refine comp1n (fun f=>.tup [nD (hs.getD f (0,0)).1,nD (hs.getD f (0,0)).2,.ref (h.length + 1 + f)]) Src.ok_nil none (fun f hf K k=>?_) ?_
    ·have fl:f < hs.length:=List.mem_range.mp hf
     have ixe:atI ((List.range hs.length).map (fun j=>D.ref (h.length + 1 + j))) (0 + (f:Int))=some (.ref (h.length + 1 + f)):=by rw [Int.zero_add,atN,List.getElem?_map,List.getElem?_range fl];rfl
     have ixh:ixD (h ++ (.lst (hs.map pD) :: es.map eO)) (.ref h.length) (.int (0 + (f:Int)))=some (pD (hs.getD f (0,0))):=by
      rw [ix_ls hg0,Int.zero_add,atN,List.getElem?_map,List.getD_eq_getElem?_getD,List.getElem?_eq_getElem fl];rfl
     simp only [ixe,ixh,pD,VV]
     exact k
    ·exact ⟨h,_,cD (mkC hs es),rfl,rfl,fun _ _ e=>.inl e,chart_vw hel (by first | decide | omega) rfl fun f l hl2=>tl_get hl2,q _ (hes.wf ok (by first | decide | omega) (by first | decide | omega) (by rw [List.length_zipIdx];omega)) (mkC_small ok (by first | decide | omega) hel)⟩
theorem ok_q2{f:Addr}{fd:FuncData}(F:Fun K "_law_chart" "_law_chart" s_q2 f fd)(T:Txt P w K mg)(C_q0:Cal P w K mg base 1 "_law_cell" ["_law_script","_law_k"] (spD K 2 S_q0))(C_q5:Cal P w K mg base 3 "_law_edge" ["_law_cell_here","_law_heads","_law_f","_law_most"] (spD K 4 S_q5)):FnOk P w K mg base CX0 4 f fd ["_law_script","_law_at","_law_many","_law_wide","_law_deep"] (spD K 5 S_q2) :=
 fn_okD (k:=3) (b:=b_q2) F sc_q2 (fun cdv A outer s H E hr=>by
  refine ss_cons ?_ ?_
  ·refine s_set (i:=5) ?_ ?_ ?_ ?_
   ·exact sc_q2.nd
   ·exact rfl
   ·exact Or.inr rfl
   exact se_t (sn_lst sa_nil)
  refine ss_cons ?_ ?_
  ·refine s_for ?_ ?_ ?_ ?_ ?_
   ·exact PassesOwn.never
   ·exact rfl
   ·exact si_range1 rfl T.b_range (sa_cons (se_op ok_plus se_int (se_op ok_mod (se_cal C_q0 (hr.mono (by decide)) rfl (sa_cons (sv 0) (sa_cons se_int sa_nil))) (sv 2))) sa_nil)
   ·exact sg_name (i:=6) sc_q2.nd rfl (Or.inl rfl)
   refine ss_cons ?_ ?_
   ·refine s_set (i:=7) ?_ ?_ ?_ ?_
    ·exact sc_q2.nd
    ·exact rfl
    ·exact Or.inl rfl
    exact se_op ok_div (se_cal C_q0 (hr.mono (by decide)) rfl (sa_cons (sv 0) (sa_cons (se_op ok_plus se_int (sv 6)) sa_nil))) se_int
   refine ss_one ?_
   refine s_expr ?_
   exact se_append (sv 5) (sa_cons (se_tup (sa_cons (se_op ok_plus se_int (se_op ok_mod (sv 7) (sv 3))) (sa_cons (se_op ok_plus se_int (se_op ok_mod (se_op ok_div (sv 7) se_int) (sv 4))) sa_nil))) sa_nil)
  refine ss_cons ?_ ?_
  ·refine s_set (i:=8) ?_ ?_ ?_ ?_
   ·exact sc_q2.nd
   ·exact rfl
   ·exact Or.inr rfl
   refine se_v ?_
   exact sn_comp rfl (N':= ["_law_head"]) (js:=[none]) ⟨rfl,by decide +kernel,rfl,rfl,rfl⟩ (si_seq (sv 5)) (fun s0 H0 fp=>⟨(sg_name (i:=0) (show (["_law_head"]:List Str).Nodup by decide +kernel) rfl (Or.inl rfl)),sf_nil,(se_t (sn_lst sa_nil))⟩)
  refine ss_cons ?_ ?_
  ·refine s_for ?_ ?_ ?_ ?_ ?_
   ·exact PassesOwn.never
   ·exact rfl
   ·exact si_enum rfl T.b_enumerate (sa_cons (se_sl (sv 0) (so_some (sv 1)) (so_some (se_op ok_plus (sv 1) se_int))) sa_nil)
   ·exact sg_tup rfl (sgs_cons (sg_name (i:=9) sc_q2.nd rfl (Or.inl rfl)) (sgs_cons (sg_name (i:=7) sc_q2.nd rfl (Or.inl rfl)) sgs_nil))
   refine ss_cons ?_ ?_
   ·refine s_set (i:=6) ?_ ?_ ?_ ?_
    ·exact sc_q2.nd
    ·exact rfl
    ·exact Or.inl rfl
    exact se_op ok_mod (se_op ok_plus (se_op ok_div (sv 7) se_int) (sv 9)) (se_callB ok_len rfl T.b_len PySem.boot_len (sa_cons (sv 5) sa_nil))
   refine ss_one ?_
   refine s_expr ?_
   exact se_append (se_ix ok_ix (sv 8) (sv 6) (fun _ _=>rfl)) (sa_cons (se_cal C_q5 (hr.mono (by decide)) rfl (sa_cons (sv 7) (sa_cons (sv 5) (sa_cons (sv 6) (sa_cons se_int sa_nil))))) sa_nil)
  refine ss_one ?_
  refine s_ret ?_
  refine se_v ?_
  exact sn_comp rfl (N':= ["_law_f","_law_heads","_law_edges"]) (js:=[none,some 5,some 8]) ⟨rfl,by decide +kernel,rfl,rfl,rfl⟩ (si_range1 rfl T.b_range (sa_cons (se_callB ok_len rfl T.b_len PySem.boot_len (sa_cons (sv 5) sa_nil)) sa_nil)) (fun s0 H0 fp=>⟨(sg_name (i:=0) (show (["_law_f","_law_heads","_law_edges"]:List Str).Nodup by decide +kernel) rfl (Or.inl rfl)),sf_nil,(se_tup (sa_cons (se_ix ok_ix (se_ix ok_ix (sv 1) (sv 0) (fun _ _=>rfl)) se_int (fun _ _=>rfl)) (sa_cons (se_ix ok_ix (se_ix ok_ix (sv 1) (sv 0) (fun _ _=>rfl)) se_int (fun _ _=>rfl)) (sa_cons (se_ix ok_ix (sv 2) (sv 0) (fun _ _=>rfl)) sa_nil))))⟩)) imp_q2
noncomputable def b_q16:DS:=(dSeq (dAsg (dV (dComp [none,some 0] (dIRange (dCons (dC (.int 2)) dNil)) (dName 0) dNoIf (dTup (dCons (dOp pPlus (dC (.int 1)) (dOp pMod (dCal S_q0 (dCons (dVar 1) (dCons (dOp pPlus (dC (.int 1)) (dVar 0)) dNil))) (dC (.int 2)))) (dCons (dOp pPlus (dC (.int 5)) (dOp pMod (dOp pDiv (dCal S_q0 (dCons (dVar 1) (dCons (dOp pPlus (dC (.int 1)) (dVar 0)) dNil))) (dC (.int 2))) (dC (.int 2)))) dNil))))) (dName 1))
  (dSeq (dAsg (dV (dCons (dTk dNil) (dCons (dTk dNil) dNil))) (dName 2))
  (dSeq (dFor (dIEnum (dCons (dSl (dVar 0) (dPart (dC (.int 6))) (dPart (dC (.int 11)))) dNil)) (dUnp 2 (dGCons (dName 3) (dGCons (dName 4) dGNil))) (dSeq (dAsg (dOp pMod (dOp pPlus (dOp pDiv (dVar 4) (dC (.int 5))) (dVar 3)) (dC (.int 2))) (dName 5))
  (dDrop (dAppend (dOp pIx (dVar 2) (dVar 5)) (dCons (dCal S_q5 (dCons (dVar 4) (dCons (dVar 1) (dCons (dVar 5) (dCons (dC (.int 3)) dNil))))) dNil)))))
  (dRet (dV (dComp [none,some 1,some 2] (dIRange (dCons (dC (.int 2)) dNil)) (dName 0) dNoIf (dTup (dCons (dOp pIx (dOp pIx (dVar 1) (dVar 0)) (dC (.int 0))) (dCons (dOp pIx (dOp pIx (dVar 1) (dVar 0)) (dC (.int 1))) (dCons (dOp pIx (dVar 2) (dVar 0)) dNil))))))))))
theorem tw_get{h:Hh}{es:List (List Edge)}{f:Nat}{l:List Edge}(e:es[f]?=some l):(h ++ es.map eO)[h.length + f]?=some (eO l):=by
 rw [List.getElem?_append_right (by first | decide | omega),show h.length + f - h.length=f by first | decide | omega,List.getElem?_map,e];rfl
theorem tw_set{h:Hh}{es:List (List Edge)}{f:Nat}{l:List Edge}:(h ++ es.map eO).set (h.length + f) (eO l)=h ++ (es.set f l).map eO:=by
 rw [List.set_append_right _ _ (by first | decide | omega),show h.length + f - h.length=f by first | decide | omega,List.map_set]
noncomputable def S_q16:DSp:=fun ds h Q=>∃ (ns:List Int),ds=[.scr (ns.map .int)]∧ns.length ≤ 63∧(∀ x ∈ ns,Builtin.Int.intBits x ≤ 1048576)∧∀ C,WF C→Small C→Q (cD C) h
theorem imp_q16:∀ ds h Q,S_q16 ds h Q→runD 6 b_q16 ds h (Dr h Q):=by
 rintro ds h Q ⟨ns,rfl,hl,hb,q⟩
 delta runD b_q16;simp only [List.map_cons,List.map_nil,List.cons_append,List.nil_append,List.length_cons,List.length_nil,List.replicate,Nat.reduceSub,Nat.reduceAdd,Nat.zero_add,Nat.sub_self]
 (try dsimp only);refine seq_intro fun N hN=>?_
 simp only [VV]
 refine ⟨by first | decide | omega,by rw [rangeD_length];decide,?_⟩
 rw [rangeD_map]
 refine compL_map (fun p acc δ h'=>∃ (hs:Hd) (o:Option D),δ=[o,some (.scr (ns.map .int))]∧h'=h∧acc=hs.map pD∧hs.length=p.length∧hOk hs) ⟨[],none,rfl,rfl,rfl,rfl,fun f x e=>by simp at e⟩ (fun _ _ _ _ _=>Src.ok_nil) ?_ ?_
 ·rintro p d r' acc δ h' N1 e ⟨hs,o,rfl,rfl,rfl,hlen,ok⟩ hN1
  obtain ⟨hdp,hd⟩:=range_split e
  have hd:d < 2:=hd
  simp only [VV]
  have e1:(1:Int) + (0 + (d:Int))=((1 + d:Nat):Int):=by first | decide | omega
  refine ⟨ns,1 + d,by rw [e1],hl,hb,by first | decide | omega,fun r1 hr1=>?_⟩
  simp only [VV]
  refine ⟨by first | decide | omega,ns,1 + d,by rw [e1],hl,hb,by first | decide | omega,fun r2 hr2=>?_⟩
  simp only [VV]
  refine ⟨by first | decide | omega,by first | decide | omega,?_⟩
  obtain ⟨a,ha,a2⟩:=mod2 r1
  obtain ⟨b,hb,b2⟩:=mod2 (r2 / 2)
  obtain ⟨a3,a4,a5⟩:=up1 (a:=1) a2
  obtain ⟨b3,b4,b5⟩:=up1 (a:=5) b2
  have a3:1 + (a:Int)=((1 + a:Nat):Int):=a3
  have b3:5 + (b:Int)=((5 + b:Nat):Int):=b3
  rw [ha,hb,a3,b3]
  exact hN1 _ _ _ ⟨hs ++ [(1 + a,5 + b)],_,rfl,rfl,by rw [List.map_append];rfl,by rw [List.length_append,List.length_append,hlen];rfl,ok.snoc ⟨a4,Nat.le_trans a5 (by decide),Nat.le_trans (by decide) b4,b5⟩⟩
 ·rintro acc δ h' ⟨hs,o,rfl,rfl,rfl,hlen,ok⟩
  have hlen:hs.length=2:=hlen
  subst hN
  (try dsimp only);refine seq_intro fun N hN=>?_
  simp only [VV]
  subst hN
  (try dsimp only);refine seq_intro fun N hN=>?_
  obtain ⟨ms,hms,hml⟩:=cut_ints ns (some 6) (some 11)
  have l1:(h' ++ [O.lst []]).length=h'.length + 1:=by rw [List.length_append];rfl
  refine for_intro fun T B hT hB=>?_
  simp only [hms,l1,VV]
  rw [enumD_map]
  refine forL_map (fun p δ h''=>∃ (es:List (List Edge)) (x3 x4 x5:Option D),δ=[some (.scr (ns.map .int)),some (.lst (hs.map pD)),some (.lst [.ref h'.length,.ref (h'.length + 1)]),x3,x4,x5]∧h''=h' ++ es.map eO∧esOk hs es p.length) ⟨[[],[]],_,_,_,rfl,by rw [List.append_assoc];rfl,?_⟩ (fun _ _ _ _=>Src.ok_nil) ?_ ?_
  ·have:=esOk.nil hs
   rw [hlen] at this
   exact this
  ·rintro p y r' δ h'' N1 e ⟨es,x3,x4,x5,rfl,rfl,hes⟩ hN1
   obtain ⟨cl,kk⟩:=y
   subst hT;subst hB
   refine unp2 ?_
   (try dsimp only);refine seq_intro fun N hN=>?_
   have hel:=hes.1
   simp only [VV]
   refine ⟨by first | decide | omega,by first | decide | omega,?_⟩
   obtain ⟨f,hf,fl⟩:=mod2 (cl / 5 + (0 + (kk:Int)))
   rw [hf]
   obtain ⟨x,hx⟩:∃ x,hs[f]?=some x:=⟨_,List.getElem?_eq_getElem (by rw [hlen];exact fl)⟩
   obtain ⟨l,hl2⟩:∃ l,es[f]?=some l:=⟨_,List.getElem?_eq_getElem (by rw [hel,hlen];exact fl)⟩
   have ixe:atI [D.ref h'.length,.ref (h'.length + 1)] (f:Int)=some (.ref (h'.length + f)):=by
    match f,fl with
    |0,_=>rfl
    |1,_=>rfl
   have tg:(h' ++ es.map eO)[h'.length + f]?=some (.lst (l.map eD)):=tw_get hl2
   subst hN
   simp only [ixe,tg,VV]
   refine ⟨cl,.lst (hs.map pD),hs,f,3,x,rfl,rfl,hx,ok,by first | decide | omega,by first | decide | omega,by first | decide | omega,fun E hE=>?_⟩
   simp only [tg,List.length_map,VV]
   have q1:=(hes.2 f x l hx hl2).1
   have pl:p.length < ms.zipIdx.length:=by rw [e];simp
   rw [List.length_zipIdx] at pl
   have se:(h' ++ es.map eO).set (h'.length + f) (.lst (l.map eD ++ [eD E]))=h' ++ (es.set f (l ++ [E])).map eO:=by
    rw [← tw_set];unfold eO;rw [List.map_append];rfl
   rw [se]
   exact ⟨by first | decide | omega,hN1 _ _ ⟨es.set f (l ++ [E]),_,_,_,rfl,rfl,by rw [List.length_append];exact hes.put hx hl2 hE⟩⟩
  ·rintro δ h'' ⟨es,x3,x4,x5,rfl,rfl,hes⟩
   subst hN
   have hel:=hes.1
   simp only [VV]
   refine ⟨by first | decide | omega,by rw [rangeD_length];decide,?_⟩
   rw [rangeD_map]
   refine comp1n (fun f=>.tup [nD (hs.getD f (0,0)).1,nD (hs.getD f (0,0)).2,.ref (h'.length + f)]) Src.ok_nil none (fun f hf K k=>?_) ?_
   ·have fl:f < 2:=List.mem_range.mp hf
    have ixe:atI [D.ref h'.length,.ref (h'.length + 1)] (0 + (f:Int))=some (.ref (h'.length + f)):=by
     have:f=0∨f=1:=by first | decide | omega
     rcases this with rfl | rfl <;> rfl
    have ixh:atI (hs.map pD) (0 + (f:Int))=some (pD (hs.getD f (0,0))):=by
     rw [Int.zero_add,atN,List.getElem?_map,List.getD_eq_getElem?_getD,List.getElem?_eq_getElem (show f < hs.length by first | decide | omega)];rfl
    simp only [ixe,ixh,pD,VV]
    exact k
   ·exact ⟨h',_,cD (mkC hs es),rfl,rfl,fun _ _ e=>.inl e,chart_vw hel (by first | decide | omega) hlen fun f l hl2=>tw_get hl2,q _ (hes.wf ok (by first | decide | omega) (by first | decide | omega) (by rw [List.length_zipIdx];omega)) (mkC_small ok (by first | decide | omega) hel)⟩
theorem ok_q16{f:Addr}{fd:FuncData}(F:Fun K "_law_wide_chart" "_law_wide_chart" s_q16 f fd)(T:Txt P w K mg)(C_q0:Cal P w K mg base 1 "_law_cell" ["_law_script","_law_k"] (spD K 2 S_q0))(C_q5:Cal P w K mg base 3 "_law_edge" ["_law_cell_here","_law_heads","_law_f","_law_most"] (spD K 4 S_q5)):FnOk P w K mg base CX0 4 f fd ["_law_script"] (spD K 1 S_q16) :=
 fn_okD (k:=3) (b:=b_q16) F sc_q16 (fun cdv A outer s H E hr=>by
  refine ss_cons ?_ ?_
  ·refine s_set (i:=1) ?_ ?_ ?_ ?_
   ·exact sc_q16.nd
   ·exact rfl
   ·exact Or.inr rfl
   refine se_v ?_
   exact sn_comp rfl (N':= ["_law_f","_law_script"]) (js:=[none,some 0]) ⟨rfl,by decide +kernel,rfl,rfl,rfl⟩ (si_range1 rfl T.b_range (sa_cons se_int sa_nil)) (fun s0 H0 fp=>⟨(sg_name (i:=0) (show (["_law_f","_law_script"]:List Str).Nodup by decide +kernel) rfl (Or.inl rfl)),sf_nil,(se_tup (sa_cons (se_op ok_plus se_int (se_op ok_mod (se_cal C_q0 (hr.mono (by decide)) rfl (sa_cons (sv 1) (sa_cons (se_op ok_plus se_int (sv 0)) sa_nil))) se_int)) (sa_cons (se_op ok_plus se_int (se_op ok_mod (se_op ok_div (se_cal C_q0 (hr.mono (by decide)) rfl (sa_cons (sv 1) (sa_cons (se_op ok_plus se_int (sv 0)) sa_nil))) se_int) se_int)) sa_nil)))⟩)
  refine ss_cons ?_ ?_
  ·refine s_set (i:=2) ?_ ?_ ?_ ?_
   ·exact sc_q16.nd
   ·exact rfl
   ·exact Or.inr rfl
   refine se_v ?_
   refine sn_lst (n:=2) ?_
   refine sa_cons ?_ ?_
   ·exact se_t (sn_lst sa_nil)
   refine sa_cons ?_ ?_
   ·exact se_t (sn_lst sa_nil)
   exact sa_nil
  refine ss_cons ?_ ?_
  ·refine s_for ?_ ?_ ?_ ?_ ?_
   ·exact PassesOwn.never
   ·exact rfl
   ·exact si_enum rfl T.b_enumerate (sa_cons (se_sl (sv 0) (so_some se_int) (so_some se_int)) sa_nil)
   ·exact sg_tup rfl (sgs_cons (sg_name (i:=3) sc_q16.nd rfl (Or.inl rfl)) (sgs_cons (sg_name (i:=4) sc_q16.nd rfl (Or.inl rfl)) sgs_nil))
   refine ss_cons ?_ ?_
   ·refine s_set (i:=5) ?_ ?_ ?_ ?_
    ·exact sc_q16.nd
    ·exact rfl
    ·exact Or.inl rfl
    exact se_op ok_mod (se_op ok_plus (se_op ok_div (sv 4) se_int) (sv 3)) se_int
   refine ss_one ?_
   refine s_expr ?_
   exact se_append (se_ix ok_ix (sv 2) (sv 5) (fun _ _=>rfl)) (sa_cons (se_cal C_q5 (hr.mono (by decide)) rfl (sa_cons (sv 4) (sa_cons (sv 1) (sa_cons (sv 5) (sa_cons se_int sa_nil))))) sa_nil)
  refine ss_one ?_
  refine s_ret ?_
  refine se_v ?_
  exact sn_comp rfl (N':= ["_law_f","_law_heads","_law_edges"]) (js:=[none,some 1,some 2]) ⟨rfl,by decide +kernel,rfl,rfl,rfl⟩ (si_range1 rfl T.b_range (sa_cons se_int sa_nil)) (fun s0 H0 fp=>⟨(sg_name (i:=0) (show (["_law_f","_law_heads","_law_edges"]:List Str).Nodup by decide +kernel) rfl (Or.inl rfl)),sf_nil,(se_tup (sa_cons (se_ix ok_ix (se_ix ok_ix (sv 1) (sv 0) (fun _ _=>rfl)) se_int (fun _ _=>rfl)) (sa_cons (se_ix ok_ix (se_ix ok_ix (sv 1) (sv 0) (fun _ _=>rfl)) se_int (fun _ _=>rfl)) (sa_cons (se_ix ok_ix (sv 2) (sv 0) (fun _ _=>rfl)) sa_nil))))⟩)) imp_q16
noncomputable def b_q25:DS:=(dRet (dAndV (dCal S_q19 (dCons (dVar 0) (dCons (dVar 1) (dCons (dVar 2) (dCons (dVar 3) dNil))))) (dAndV (dCal S_q24 (dCons (dVar 0) (dCons (dVar 2) dNil))) (dAndV (dCal S_q17 (dCons (dVar 2) (dCons (dVar 3) dNil))) (dCal S_q23 (dCons (dVar 0) (dCons (dVar 3) dNil)))))))
noncomputable def S_q25:DSp:=fun ds h Q=>∃ (C:Chart) (st i j:Nat) (I P:Ct) (F:Fn),ds=[cD C,nD st,.ref i,.ref j]∧h[i]?=some (.dT none (tbD I))∧h[j]?=some (.dT none (tbD P))∧i ≠ j∧WF C∧C[0]?=some F∧st < 2 ^ F.facts∧TOk (K4 C) I∧TOk (K3 C) P∧∀ b,(b=true ↔ Shut C st I P)→Q (.bl b) h
theorem imp_q25:∀ ds h Q,S_q25 ds h Q→runD 4 b_q25 ds h Q:=by
 rintro ds h Q ⟨C,st,i,j,I,P,F,rfl,ei,ej,hij,wf,hF,hst,ti,tp,q⟩
 delta runD b_q25;simp only [List.map_cons,List.map_nil,List.cons_append,List.nil_append,List.length_cons,List.length_nil,List.replicate,Nat.reduceSub,Nat.reduceAdd,Nat.zero_add,Nat.sub_self]
 simp only [VV]
 refine ⟨C,st,i,j,none,none,I,P,F,rfl,ei,ej,wf,hF,hst,fun b1 h1=>?_⟩
 simp only [VV]
 cases b1 with
 |false=>simp only [VV];exact q _ ⟨fun z=>(nomatch z),fun z=>h1.mpr ⟨z.bi,z.bp⟩⟩
 |true =>
  simp only [VV]
  refine ⟨C,i,I,rfl,ei,wf,ti,fun b2 h2=>?_⟩
  simp only [VV]
  cases b2 with
  |false=>simp only [VV];exact q _ ⟨fun z=>(nomatch z),fun z=>h2.mpr z.oi⟩
  |true =>
   simp only [VV]
   refine ⟨C,i,j,I,P,rfl,ei,ej,hij,ti,fun b3 h3=>?_⟩
   simp only [VV]
   cases b3 with
   |false=>simp only [VV];exact q _ ⟨fun z=>(nomatch z),fun z=>h3.mpr fun k hk x hx=>z.op x (List.mem_append_left _ (List.mem_flatMap.mpr ⟨k,hk,hx⟩))⟩
   |true =>
    simp only [VV]
    refine ⟨C,j,P,rfl,ej,wf,tp,fun b4 h4=>q _ ⟨fun z=>?_,fun z=>h4.mpr fun k hk x hx=>z.op x (List.mem_append_right _ (List.mem_flatMap.mpr ⟨k,hk,hx⟩))⟩⟩
    refine ⟨(h1.mp rfl).2,fun x hx=>?_,(h1.mp rfl).1,h2.mp rfl⟩
    rcases List.mem_append.mp hx with hx | hx
    ·obtain ⟨k,hk,hx⟩:=List.mem_flatMap.mp hx
     exact h3.mp rfl k hk x hx
    ·obtain ⟨k,hk,hx⟩:=List.mem_flatMap.mp hx
     exact h4.mp z k hk x hx
theorem ok_q25{f:Addr}{fd:FuncData}(F:Fun K "is_shut" "is_shut" s_q25 f fd)(T:Txt P w K mg)(C_q19:Cal P w K mg base 2 "begins_are_told" ["chart","start","inside","places"] (spD K 4 S_q19))(C_q24:Cal P w K mg base 4 "inside_is_shut" ["chart","inside"] (spD K 2 S_q24))(C_q17:Cal P w K mg base 2 "alongs_are_told" ["inside","places"] (spD K 2 S_q17))(C_q23:Cal P w K mg base 3 "ins_are_told" ["chart","places"] (spD K 2 S_q23)):FnOk P w K mg base CX0 5 f fd ["chart","start","inside","places"] (spD K 4 S_q25) :=
 fn_ok (k:=4) (b:=b_q25) F sc_q25 (fun cdv A outer s H E hr=>by
  refine ss_one ?_
  refine s_ret ?_
  exact se_and (se_cal C_q19 (hr.mono (by decide)) rfl (sa_cons (sv 0) (sa_cons (sv 1) (sa_cons (sv 2) (sa_cons (sv 3) sa_nil))))) (se_and (se_cal C_q24 (hr.mono (by decide)) rfl (sa_cons (sv 0) (sa_cons (sv 2) sa_nil))) (se_and (se_cal C_q17 (hr.mono (by decide)) rfl (sa_cons (sv 2) (sa_cons (sv 3) sa_nil))) (se_one (se_cal C_q23 (hr.mono (by decide)) rfl (sa_cons (sv 0) (sa_cons (sv 3) sa_nil))))))) imp_q25
noncomputable def b_q27:DS:=(dSeq (dAsg (dCal S_q2 (dCons (dVar 0) (dCons (dC (.int 6)) (dCons (dC (.int 3)) (dCons (dC (.int 3)) (dCons (dC (.int 3)) dNil)))))) (dName 1))
  (dSeq (dAsg (dOp (pEq false) (dOp pMod (dCal S_q0 (dCons (dVar 0) (dCons (dC (.int 4)) dNil))) (dC (.int 4))) (dC (.int 1))) (dName 2))
  (dSeq (dIfS (dTr (dVar 2)) (dAsg (dCal S_q16 (dCons (dVar 0) dNil)) (dName 1)) dNext)
  (dSeq (dAsg (dCal S_q14 (dCons (dVar 0) (dCons (dVar 1) dNil))) (dName 3))
  (dSeq (dAsg (dCal S_q11 (dCons (dVar 1) dNil)) (dUnp 2 (dGCons (dName 4) (dGCons (dName 5) dGNil))))
  (dSeq (dIfS (dNot (dTr (dVar 2))) (dAsg (dCal S_q8 (dCons (dVar 1) (dCons (dVar 3) dNil))) (dUnp 2 (dGCons (dName 4) (dGCons (dName 5) dGNil)))) dNext)
  (dSeq (dAsg (dCal S_q11 (dCons (dVar 1) dNil)) (dUnp 2 (dGCons (dName 6) (dGCons (dName 7) dGNil))))
  (dSeq (dAsg (dTk (dCons (dOp pPlus (dCB pSum (dCons (dV (dComp [none] (dISeq (dSl (dVar 0) dNoPart (dPart (dC (.int 64))))) (dName 0) dNoIf (dOp pMod (dVar 0) (dC (.int 1000003))))) dNil)) (dC (.int 5))) dNil)) (dName 8))
  (dSeq (dIfS (dOr (dNot (dTr (dCal S_q25 (dCons (dVar 1) (dCons (dVar 3) (dCons (dVar 4) (dCons (dVar 5) dNil))))))) (dNot (dTr (dCal S_q25 (dCons (dVar 1) (dCons (dVar 3) (dCons (dVar 6) (dCons (dVar 7) dNil)))))))) (dRet (dC (.bl false))) dNext)
  (dSeq (dAsg (dV (dCons (dV (dSortT (dCons (dVar 6) dNil))) (dCons (dV (dSortT (dCons (dVar 7) dNil))) dNil))) (dName 9))
  (dSeq (dAsg (dAndV (dNotV (dVar 2)) (dOp pGt (dCal S_q10 (dCons (dVar 8) (dCons (dC (.int 5)) dNil))) (dC (.int 0)))) (dName 10))
  (dSeq (dIfS (dNot (dTr (dVar 10))) (dPar 4 5 (dCons (dVar 6) (dCons (dVar 7) dNil))) dNext)
  (dSeq (dAsg (dTk dNil) (dName 11))
  (dSeq (dFor (dIRange (dCons (dOp pPlus (dC (.int 1)) (dCal S_q10 (dCons (dVar 8) (dCons (dC (.int 2)) dNil)))) dNil)) (dName 12) (dSeq (dDrop (dAppend (dVar 11) (dCons (dCal S_q10 (dCons (dVar 8) (dCons (dC (.int 4)) dNil))) dNil)))
  (dSeq (dAsg (dCal S_q10 (dCons (dVar 8) (dCons (dC (.int 2)) dNil))) (dName 13))
  (dIfS (dTst (dOp pGt (dCB pLenT (dCons (dOp pIx (dV (dCons (dVar 4) (dCons (dVar 5) dNil))) (dVar 13)) dNil)) (dC (.int 0)))) (dDrop (dCal S_q1 (dCons (dOp pIx (dV (dCons (dVar 4) (dCons (dVar 5) dNil))) (dVar 13)) (dCons (dOp pIx (dVar 9) (dVar 13)) (dCons (dVar 8) (dCons (dOp pIx (dVar 11) (dVar 12)) dNil)))))) dNext))))
  (dSeq (dAsg (dCal S_q3 (dCons (dVar 1) dNil)) (dName 14))
  (dSeq (dAsg (dTup (dCons (dDictT (dCons (dVar 4) dNil)) (dCons (dDictT (dCons (dVar 5) dNil)) dNil))) (dName 15))
  (dSeq (dAsg (dCal S_q7 (dCons (dVar 1) (dCons (dVar 3) (dCons (dVar 4) (dCons (dVar 5) dNil))))) (dName 16))
  (dSeq (dIfS (dAnd (dTr (dVar 10)) (dAnd (dTst (dOp (pEq false) (dCB pLen (dCons (dVar 11) dNil)) (dC (.int 1)))) (dAnd (dTst (dOp pLtI (dOp pIx (dVar 11) (dC (.int 0))) (dC (.int 2)))) (dTr (dVar 16))))) (dRet (dC (.bl false))) dNext)
  (dSeq (dFor (dIRange (dCons (dC (.int 2)) dNil)) (dName 12) (dSeq (dAsg (dCal S_q25 (dCons (dVar 14) (dCons (dVar 3) (dCons (dVar 4) (dCons (dVar 5) dNil))))) (dName 17))
  (dIfS (dOr (dNot (dTr (dIsinst "bool" (dVar 17)))) (dTst (dOp (pEq true) (dVar 17) (dVar 16)))) (dRet (dC (.bl false))) dNext)))
  (dRet (dAndV (dOp (pEq false) (dVar 14) (dVar 1)) (dOp pEqDD (dTup (dCons (dVar 4) (dCons (dVar 5) dNil))) (dVar 15)))))))))))))))))))))))
theorem nodup_of{α β:Type}{f:α→β}:∀ {L l:List α},(L.map f).Nodup→l.Nodup→(∀ x ∈ l,x ∈ L)→(l.map f).Nodup:=by
 intro L l hL
 have inj:∀ x ∈ L,∀ y ∈ L,f x=f y→x=y:=by
  induction L with
  |nil=>intro x hx;cases hx
  |cons a L ih =>
   rw [List.map_cons,List.nodup_cons] at hL
   intro x hx y hy e
   rcases List.mem_cons.mp hx with rfl | hx'
   ·rcases List.mem_cons.mp hy with rfl | hy'
    ·rfl
    ·exact absurd (List.mem_map.mpr ⟨y,hy',e.symm⟩) hL.1
   ·rcases List.mem_cons.mp hy with rfl | hy'
    ·exact absurd (List.mem_map.mpr ⟨x,hx',e⟩) hL.1
    ·exact ih hL.2 x hx' y hy' e
 induction l with
 |nil=>intro _ _;exact List.nodup_nil
 |cons a l ih =>
  intro nd h
  rw [List.nodup_cons] at nd
  rw [List.map_cons,List.nodup_cons]
  refine ⟨fun z=>?_,ih nd.2 fun x hx=>h x (List.mem_cons_of_mem _ hx)⟩
  obtain ⟨y,hy,e⟩:=List.mem_map.mp z
  rw [inj y (h y (List.mem_cons_of_mem _ hy)) a (h a List.mem_cons_self) e] at hy
  exact nd.1 hy
theorem hash_tb{m:Ct}{L:List Kt}(hL:(L.map fun k=>hashK (kN k)).Nodup)(nd:(keys m).Nodup)(h:∀ k ∈ keys m,k ∈ L):((tbD m).map fun kv=>hashK kv.1).Nodup:=by
 have:=nodup_of hL nd h
 unfold keys at this
 rw [List.map_map] at this
 unfold tbD
 rw [List.map_map]
 exact this
theorem iks_tb(m:Ct):∀ kv ∈ tbD m,IKs kv.1:=fun kv h=>by
 obtain ⟨x,hx,rfl⟩:=List.mem_map.mp h
 exact ⟨x.1.map fun n:Nat=>(n:Int),by show kN x.1=_;unfold kN;rw [List.map_map];rfl⟩
theorem int_tb(m:Ct):IntD (tbD m):=fun kv h=>⟨iks_tb m kv h,by
 obtain ⟨x,hx,rfl⟩:=List.mem_map.mp h
 exact ⟨_,rfl⟩⟩
theorem K4.ne{C:Chart}{k:Kt}(h:K4 C k):k ≠ []:=by
 obtain ⟨f,a,p,d,F,rfl,_⟩:=h
 exact fun z=>nomatch z
theorem K3.ne{C:Chart}{k:Kt}(h:K3 C k):k ≠ []:=by
 obtain ⟨f,p,d,F,rfl,_⟩:=h
 exact fun z=>nomatch z
theorem met_nil{m:Ct}{x:Kt×Nat}(h:Met m x):m ≠ []:=fun z=>by
 obtain ⟨c,e,_⟩:=h
 rw [z] at e;cases e
theorem shut_ne{C:Chart}{st:Nat}{I P:Ct}{F:Fn}(wf:WF C)(s:Shut C st I P)(hF:C[0]?=some F)(h1:1 ≤ st)(h2:st < 2 ^ F.facts):I ≠ []∧P ≠ []:=by
 obtain ⟨w1,w2,w3,w4,w5,w6⟩:=wf.fn 0 F hF
 refine ⟨met_nil (s.bi _ (mem_begI.mpr ⟨0,F,0,hF,w3,rfl⟩)),?_⟩
 obtain ⟨d,hd⟩:=Nat.exists_testBit_of_ne_zero (show st ≠ 0 by first | decide | omega)
 have d6:d < 6:=by
  rcases Nat.lt_or_ge d 6 with z | z
  ·exact z
  ·rw [Nat.testBit_lt_two_pow (Nat.lt_of_lt_of_le h2 (Nat.pow_le_pow_right (by decide) (Nat.le_trans w4 z)))] at hd;cases hd
 exact met_nil (s.bp _ (mem_begP.mpr ⟨d,d6,hd,rfl⟩))
theorem two_set{h:Hh}{i:Nat}{o a b c:O}(hi:i < h.length):((h ++ [a,b]).set i o).set h.length c=(h.set i o) ++ [c,b]:=by
 rw [List.set_append_left _ _ hi]
 have:=two_s0 (h:=h.set i o) (a:=a) (b:=b) (u:=c)
 rw [List.length_set] at this;exact this
noncomputable def One(I P I' P':Ct):Prop:=(Up I I'∧P'=P)∨(I'=I∧Up P P')
noncomputable def S_q27:DSp:=runD 18 b_q27
theorem imp_q27:∀ ds h Q,S_q27 ds h Q→runD 18 b_q27 ds h Q:=fun _ _ _ h=>h
theorem law_true(ns:List Int)(hl:ns.length ≤ 63)(hb:∀ x ∈ ns,Builtin.Int.intBits x ≤ 1048576):S_q27 [.scr (ns.map D.int)] [] (fun v _=>v = .bl true):=by
 unfold S_q27
 delta runD b_q27;simp only [List.map_cons,List.map_nil,List.cons_append,List.nil_append,List.length_cons,List.length_nil,List.replicate,Nat.reduceSub,Nat.reduceAdd,Nat.zero_add,Nat.sub_self]
 (try dsimp only);refine seq_intro fun N hN=>?_
 simp only [VV]
 refine ⟨ns,rfl,hl,hb,fun C0 wf0 sm0=>?_⟩
 subst hN
 (try dsimp only);refine seq_intro fun N hN=>?_
 simp only [VV]
 refine ⟨ns,4,rfl,hl,hb,by decide,fun r hr=>?_⟩
 simp only [VV]
 refine ⟨by decide,?_⟩
 generalize (r % 4 == 1)=wide
 subst hN
 (try dsimp only);refine seq_intro fun N hN=>?_
 have rest:∀ C,WF C→Small C→N [some (.scr (ns.map D.int)),some (cD C),some (.bl wide),none,none,none,none,none,none,none,none,none,none,none,none,none,none,none] []:=fun C wf sm=>by
  obtain ⟨F0,hF0⟩:∃ d,C[0]?=some d:=⟨_,List.getElem?_eq_getElem (by have:=wf.one;omega)⟩
  obtain ⟨_,_,f1,f6,_,_⟩:=wf.fn 0 F0 hF0
  subst hN
  (try dsimp only);refine seq_intro fun N hN=>?_
  simp only [VV]
  refine ⟨ns,cD C,C,F0,rfl,hl,hb,ChD.of _ C,hF0,f1,f6,fun st st1 st2=>?_⟩
  subst hN
  (try dsimp only);refine seq_intro fun N hN=>?_
  simp only [VV]
  refine ⟨C,rfl,wf,sm,fun I0 P0 nI0 nP0=>?_⟩
  simp only [VV]
  refine ⟨trivial,?_⟩
  have s0:=Nought.shut wf hF0 st2 nI0 nP0
  subst hN
  (try dsimp only);refine seq_intro fun N hN=>?_
  have rest:∀ (h:Hh) (i j:Nat) (I P:Ct),h[i]?=some (.dT none (tbD I))→h[j]?=some (.dT none (tbD P))→i ≠ j→TOk (K4 C) I→TOk (K3 C) P→Shut C st I P→(wide=false→Least C st I P)→N [some (.scr (ns.map D.int)),some (cD C),some (.bl wide),some (nD st),some (.ref i),some (.ref j),none,none,none,none,none,none,none,none,none,none,none,none] h:=fun h i j I P ei ej hij tI tP sh lw=>by
   clear nI0 nP0 s0
   subst hN
   (try dsimp only);refine seq_intro fun N hN=>?_
   simp only [VV]
   refine ⟨C,rfl,wf,sm,fun I2 P2 nI nP=>?_⟩
   simp only [VV]
   refine ⟨trivial,?_⟩
   have s2:=Nought.shut wf hF0 st2 nI nP
   have ea:(h ++ [.dT none (tbD I2),.dT none (tbD P2)])[h.length]?=some (.dT none (tbD I2)):=two_0
   have eb:(h ++ [.dT none (tbD I2),.dT none (tbD P2)])[h.length + 1]?=some (.dT none (tbD P2)):=two_1
   have hab:h.length ≠ h.length + 1:=Nat.ne_of_lt (Nat.lt_succ_self _)
   have rest:∀ (h:Hh) (a b:Nat),a ≠ b→h[i]?=some (.dT none (tbD I))→h[j]?=some (.dT none (tbD P))→h[a]?=some (.dT none (tbD I2))→h[b]?=some (.dT none (tbD P2))→N [some (.scr (ns.map D.int)),some (cD C),some (.bl wide),some (nD st),some (.ref i),some (.ref j),some (.ref a),some (.ref b),none,none,none,none,none,none,none,none,none,none] h:=fun h a b hab ei ej ea eb=>by
    subst hN
    (try dsimp only);refine seq_intro fun N hN=>?_
    obtain ⟨ms,hms,hml⟩:=cut_ints ns none (some 64)
    simp only [hms,VV]
    refine ⟨by rw [List.length_map];exact Nat.le_trans hml (Nat.le_trans hl (by decide)),?_⟩
    refine comp1n (fun x:Int=>.int (x % 1000003)) Src.ok_nil none (fun x hx K k=>by simp only [VV];exact ⟨by decide,k⟩) ?_
    refine ⟨_,ms.map fun x=>x % 1000003,rfl,by simp only [VV];rw [List.map_map];rfl,?_⟩
    simp only [VV]
    generalize (ms.map fun x=>x % 1000003).sum + 5=s0
    subst hN
    (try dsimp only);refine seq_intro fun N hN=>?_
    (try dsimp only);refine if_intro fun A1 B1 hA hB=>?_
    simp only [VV]
    refine ⟨C,st,i,j,I,P,F0,rfl,app_get ei,app_get ej,hij,wf,hF0,st2,tI,tP,fun b1 h1=>?_⟩
    rw [h1.mpr sh]
    simp only [VV]
    refine ⟨C,st,a,b,I2,P2,F0,rfl,app_get ea,app_get eb,hab,wf,hF0,st2,nI.1,nP.1,fun b2 h2=>?_⟩
    rw [h2.mpr s2]
    simp only [VV]
    subst hB
    simp only [VV]
    subst hN
    (try dsimp only);refine seq_intro fun N hN=>?_
    simp only [VV]
    refine ⟨a,none,tbD I2,rfl,app_get ea,fun kv hkv=>?_,fun k1 hl1 hm1=>⟨b,none,tbD P2,rfl,app_get eb,fun kv hkv=>?_,fun k2 hl2 hm2=>?_⟩⟩
    ·obtain ⟨x,hx,rfl⟩:=List.mem_map.mp hkv
     exact kN_ik (K4.ne (nI.1.all _ (List.mem_map.mpr ⟨x,hx,rfl⟩)))
    ·obtain ⟨x,hx,rfl⟩:=List.mem_map.mp hkv
     exact kN_ik (K3.ne (nP.1.all _ (List.mem_map.mpr ⟨x,hx,rfl⟩)))
    obtain ⟨so1,rfl,hs1⟩:=keys_back hm1
    obtain ⟨so2,rfl,hs2⟩:=keys_back hm2
    obtain ⟨n1,n2⟩:=shut_ne wf s2 hF0 st1 st2
    rw [List.length_map,tb_len] at hl1 hl2
    have ns1:so1 ≠ []:=fun z=>by rw [z] at hl1;exact n1 (List.length_eq_zero_iff.mp hl1.symm)
    have ns2:so2 ≠ []:=fun z=>by rw [z] at hl2;exact n2 (List.length_eq_zero_iff.mp hl2.symm)
    have vs1:∀ k ∈ so1,K4 C k:=fun k hk=>nI.1.all k (hs1 k hk)
    have vs2:∀ k ∈ so2,K3 C k:=fun k hk=>nP.1.all k (hs2 k hk)
    clear hl1 hl2 hm1 hm2 hs1 hs2
    rw [map_keyD,map_keyD]
    obtain ⟨ky,hky⟩:∃ ky,ky=[D.lst (so1.map tkD),D.lst (so2.map tkD)]:=⟨_,rfl⟩
    rw [← hky]
    subst hN
    (try dsimp only);refine seq_intro fun N hN=>?_
    have rest:∀ (s:Int) (lh:Bool),(lh=true→wide=false)→N [some (.scr (ns.map D.int)),some (cD C),some (.bl wide),some (nD st),some (.ref i),some (.ref j),some (.ref a),some (.ref b),some (.ref h.length),some (.lst ky),some (.bl lh),none,none,none,none,none,none,none] (h ++ [.lst [.int s]]):=fun s lh hlh=>by
     subst hN
     (try dsimp only);refine seq_intro fun N hN=>?_
     have rest:∀ (i j:Nat) (I P:Ct),h[i]?=some (.dT none (tbD I))→h[j]?=some (.dT none (tbD P))→i ≠ j→TOk (K4 C) I→TOk (K3 C) P→I ≠ []→P ≠ []→(lh=true→Least C st I P)→N [some (.scr (ns.map D.int)),some (cD C),some (.bl wide),some (nD st),some (.ref i),some (.ref j),some (.ref a),some (.ref b),some (.ref h.length),some (.lst ky),some (.bl lh),none,none,none,none,none,none,none] (h ++ [.lst [.int s]]):=fun i j I P ei ej hij tI tP nI nP lst=>by
      have il:=(List.getElem?_eq_some_iff.mp ei).1
      have jl:=(List.getElem?_eq_some_iff.mp ej).1
      subst hN
      (try dsimp only);refine seq_intro fun N hN=>?_
      simp only [VV]
      have l1:∀ o:O,(h ++ [o]).length=h.length + 1:=fun o=>by rw [List.length_append];rfl
      rw [l1,List.append_assoc]
      subst hN
      (try dsimp only);refine seq_intro fun N hN=>?_
      refine for_intro fun T B hT hB=>?_
      simp only [VV]
      refine ⟨h.length,s,2,rfl,two_0,by decide,fun s1 r1 hr1=>?_⟩
      simp only [VV]
      obtain ⟨n,hn⟩:∃ n:Nat,n=1 + r1:=⟨_,rfl⟩
      have e0:1 + (r1:Int)=(n:Int):=by rw [hn];exact (Int.natCast_add 1 r1).symm
      have n3:n ≤ 3:=by rw [hn];exact Nat.add_le_add_left (Nat.le_of_lt (ltN hr1)) 1
      rw [e0]
      refine ⟨rng10 (Nat.le_trans n3 (by decide)),?_⟩
      rw [Int.toNat_natCast,rangeD_map,two_s0]
      refine forL_map (fun p δ h'=>∃ (g:Hh) (I' P':Ct) (s':Int) (ws:List Nat) (x12 x13:Option D),δ=[some (.scr (ns.map D.int)),some (cD C),some (.bl wide),some (nD st),some (.ref i),some (.ref j),some (.ref a),some (.ref b),some (.ref h.length),some (.lst ky),some (.bl lh),some (.ref (h.length + 1)),x12,x13,none,none,none,none]∧h'=g ++ [.lst [.int s'],.lst (ws.map nD)]∧g.length=h.length∧g[i]?=some (.dT none (tbD I'))∧g[j]?=some (.dT none (tbD P'))∧TOk (K4 C) I'∧TOk (K3 C) P'∧ws.length=p.length∧(p=[]→I'=I∧P'=P)∧(p.length=1→(∀ w ∈ ws,w < 2)→One I P I' P')) ⟨h,I,P,s1,[],_,_,rfl,rfl,rfl,ei,ej,tI,tP,rfl,fun _=>⟨rfl,rfl⟩,fun z=>nomatch z⟩ (fun _ _ _ _=>Src.ok_nil) ?_ ?_
      ·rintro p t r δ h' N1 e ⟨g,I',P',s',ws,x12,x13,rfl,rfl,gl,gi,gj,tI',tP',wl,e0,e1⟩ hN1
       obtain ⟨tp,tn⟩:=range_split e
       have gil:=(List.getElem?_eq_some_iff.mp gi).1
       have gjl:=(List.getElem?_eq_some_iff.mp gj).1
       have g0:∀ x y:O,(g ++ [x,y])[h.length]?=some x:=fun x y=>by rw [← gl];exact two_0
       have g1:∀ x y:O,(g ++ [x,y])[h.length + 1]?=some y:=fun x y=>by rw [← gl];exact two_1
       have gs0:∀ x y u:O,(g ++ [x,y]).set h.length u=g ++ [u,y]:=fun x y u=>by rw [← gl];exact two_s0
       have gs1:∀ x y u:O,(g ++ [x,y]).set (h.length + 1) u=g ++ [x,u]:=fun x y u=>by rw [← gl];exact two_s1
       have gt:∀ (k:Nat) (x y o c:O),k < g.length→((g ++ [x,y]).set k o).set h.length c=(g.set k o) ++ [c,y]:=fun k x y o c hk=>by rw [← gl];exact two_set hk
       have ps:∀ {q:Prop},(p ++ [t]=[]→q):=fun z=>absurd z (by simp)
       have p1:(p ++ [t]).length=1→p=[]:=fun z=>List.length_eq_zero_iff.mp (by rw [List.length_append] at z;exact Nat.succ.inj z)
       subst hT;subst hB
       refine name_in ?_
       (try dsimp only);refine seq_intro fun N hN=>?_
       simp only [g1,VV]
       refine ⟨h.length,s',4,rfl,g0 ..,by decide,fun s2 w hw=>?_⟩
       rw [gs0]
       simp only [g1,gs1,List.length_map,VV]
       refine ⟨by rw [wl,← tp];exact Nat.lt_of_lt_of_le tn (Nat.le_trans n3 (by decide)),?_⟩
       have ewm:ws.map nD ++ [nD w]=(ws ++ [w]).map nD:=by rw [List.map_append];rfl
       rw [ewm]
       have wl':(ws ++ [w]).length=(p ++ [t]).length:=by rw [List.length_append,List.length_append,wl];rfl
       have ww:∀ {q:Prop},(∀ x ∈ ws ++ [w],x < 2)→(w < 2→q)→q:=fun h k=>k (h w (by simp))
       have ew:∀ x:O,ixD (g ++ [x,.lst ((ws ++ [w]).map nD)]) (.ref (h.length + 1)) (.int (0 + (t:Int)))=some (nD w):=fun x=>by
        rw [ix_ls (lsOf_ref (g1 ..)),Int.zero_add,atN,List.getElem?_map,tp,← wl,List.getElem?_append_right (Nat.le_refl _),Nat.sub_self];rfl
       subst hN
       (try dsimp only);refine seq_intro fun N hN=>?_
       simp only [VV]
       refine ⟨h.length,s2,2,rfl,g0 ..,by decide,fun s3 q2 hq2=>?_⟩
       rw [gs0]
       subst hN
       (try dsimp only);refine if_intro fun A1 B1 hA hB=>?_
       have q2':=two_cases (ltN hq2)
       rcases q2' with rfl | rfl
       ·have a0:atI [D.ref i,D.ref j] ((0:Nat):Int)=some (.ref i):=rfl
        have a1:atI ky ((0:Nat):Int)=some (.lst (so1.map tkD)):=by rw [hky];rfl
        simp only [a0,VV]
        refine ⟨i,none,tbD I',rfl,app_get gi,?_⟩
        rw [tb_len]
        by_cases ne:(0:Int) < (I'.length:Int)
        ·simp only [ne,VV]
         subst hA
         simp only [a0,a1,ew,VV]
         have lI:=len4 wf sm tI'
         refine ⟨K4 C,i,h.length,w,s3,I',so1,rfl,app_get gi,g0 ..,Nat.ne_of_lt il,tI',fun k hk=>K4.ne hk,fun z=>by rw [z] at ne;exact absurd ne (by decide),Nat.le_trans lI (by decide),ns1,vs1,fun m' s4 tm up=>?_⟩
         rw [gt _ _ _ _ _ gil]
         exact hN1 _ _ ⟨g.set i (.dT none (tbD m')),m',P',s4,ws ++ [w],_,_,rfl,rfl,by rw [List.length_set];exact gl,List.getElem?_set_self gil,by rw [List.getElem?_set_ne hij];exact gj,tm,tP',wl',fun z=>ps z,fun z hw2=>ww hw2 fun hw3=>.inl ⟨(e0 (p1 z)).1 ▸ up hw3,(e0 (p1 z)).2⟩⟩
        ·simp only [ne,VV]
         subst hB
         simp only [VV]
         exact hN1 _ _ ⟨g,I',P',s3,ws ++ [w],_,_,rfl,rfl,gl,gi,gj,tI',tP',wl',fun z=>ps z,fun z _=>absurd (List.length_eq_zero_iff.mp (zeroN ne)) (by rw [(e0 (p1 z)).1];exact nI)⟩
       ·have a0:atI [D.ref i,D.ref j] ((1:Nat):Int)=some (.ref j):=rfl
        have a1:atI ky ((1:Nat):Int)=some (.lst (so2.map tkD)):=by rw [hky];rfl
        simp only [a0,VV]
        refine ⟨j,none,tbD P',rfl,app_get gj,?_⟩
        rw [tb_len]
        by_cases ne:(0:Int) < (P'.length:Int)
        ·simp only [ne,VV]
         subst hA
         simp only [a0,a1,ew,VV]
         have lP:=len3 wf sm tP'
         refine ⟨K3 C,j,h.length,w,s3,P',so2,rfl,app_get gj,g0 ..,Nat.ne_of_lt jl,tP',fun k hk=>K3.ne hk,fun z=>by rw [z] at ne;exact absurd ne (by decide),Nat.le_trans lP (by decide),ns2,vs2,fun m' s4 tm up=>?_⟩
         rw [gt _ _ _ _ _ gjl]
         exact hN1 _ _ ⟨g.set j (.dT none (tbD m')),I',m',s4,ws ++ [w],_,_,rfl,rfl,by rw [List.length_set];exact gl,by rw [List.getElem?_set_ne (Ne.symm hij)];exact gi,List.getElem?_set_self gjl,tI',tm,wl',fun z=>ps z,fun z hw2=>ww hw2 fun hw3=>.inr ⟨(e0 (p1 z)).1,(e0 (p1 z)).2 ▸ up hw3⟩⟩
        ·simp only [ne,VV]
         subst hB
         simp only [VV]
         exact hN1 _ _ ⟨g,I',P',s3,ws ++ [w],_,_,rfl,rfl,gl,gi,gj,tI',tP',wl',fun z=>ps z,fun z _=>absurd (List.length_eq_zero_iff.mp (zeroN ne)) (by rw [(e0 (p1 z)).2];exact nP)⟩
      ·rintro δ h' ⟨g,I',P',s',ws,x12,x13,rfl,rfl,gl,gi,gj,tI',tP',wl,e0,e1⟩
       have lc:∀ F ∈ C,F.edges.length ≤ 100:=fun F hF=>by
        obtain ⟨f,hf,e⟩:=List.getElem_of_mem hF
        exact (wf.fn f F (by rw [List.getElem?_eq_getElem hf,e])).2.2.2.2.1
       have hw:(g ++ [.lst [.int s'],.lst (ws.map nD)])[h.length + 1]?=some (O.lst (ws.map nD)):=by rw [← gl];exact two_1
       replace gi:(g ++ [.lst [.int s'],.lst (ws.map nD)])[i]?=some (.dT none (tbD I')):=app_get gi
       replace gj:(g ++ [.lst [.int s'],.lst (ws.map nD)])[j]?=some (.dT none (tbD P')):=app_get gj
       generalize g ++ [O.lst [D.int s'],O.lst (ws.map nD)]=hh at hw gi gj ⊢
       subst hN
       (try dsimp only);refine seq_intro fun N hN=>?_
       simp only [VV]
       refine ⟨C,rfl,wf.six,lc,?_⟩
       subst hN
       (try dsimp only);refine seq_intro fun N hN=>?_
       simp only [VV]
       refine ⟨i,none,tbD I',rfl,gi,iks_tb I',hash_tb hash4 tI'.nd fun k hk=>K4.in wf sm (tI'.all k hk),⟨j,none,tbD P',rfl,app_get gj,iks_tb P',hash_tb hash3 tP'.nd fun k hk=>K3.in wf sm (tP'.all k hk),?_⟩⟩
       have k1:(hh ++ [O.dT none (tbD I')] ++ [O.dT none (tbD P')])[hh.length]?=some (.dT none (tbD I')):=app_get (get_new ..)
       have k2:(hh ++ [O.dT none (tbD I')] ++ [O.dT none (tbD P')])[(hh ++ [O.dT none (tbD I')]).length]?=some (.dT none (tbD P')):=get_new ..
       replace hw:(hh ++ [O.dT none (tbD I')] ++ [O.dT none (tbD P')])[h.length + 1]?=some (O.lst (ws.map nD)):=app_get (app_get hw)
       replace gi:(hh ++ [O.dT none (tbD I')] ++ [O.dT none (tbD P')])[i]?=some (.dT none (tbD I')):=app_get (app_get gi)
       replace gj:(hh ++ [O.dT none (tbD I')] ++ [O.dT none (tbD P')])[j]?=some (.dT none (tbD P')):=app_get (app_get gj)
       generalize (hh ++ [O.dT none (tbD I')]).length=K2 at k2 ⊢
       generalize hh.length=K1 at k1 ⊢
       generalize hh ++ [O.dT none (tbD I')] ++ [O.dT none (tbD P')]=hh at k1 k2 hw gi gj ⊢
       subst hN
       (try dsimp only);refine seq_intro fun N hN=>?_
       simp only [VV]
       refine ⟨C,st,i,j,I',P',rfl,gi,gj,hij,wf,sm,tI',tP',fun bd hbd=>?_⟩
       subst hN
       (try dsimp only);refine seq_intro fun N hN=>?_
       have rest:∀ x12 x13:Option D,N [some (.scr (ns.map D.int)),some (cD C),some (.bl wide),some (nD st),some (.ref i),some (.ref j),some (.ref a),some (.ref b),some (.ref h.length),some (.lst ky),some (.bl lh),some (.ref (h.length + 1)),x12,x13,some (cD C),some (.tup [.ref K1,.ref K2]),some (.bl bd),none] hh:=fun x12 x13=>by
        subst hN
        (try dsimp only);refine seq_intro fun N hN=>?_
        refine for_intro fun T B hT hB=>?_
        simp only [VV]
        refine ⟨by decide,?_⟩
        rw [rangeD_map]
        refine forL_map (fun p δ h'=>h'=hh∧∃ x12 x17:Option D,δ=[some (.scr (ns.map D.int)),some (cD C),some (.bl wide),some (nD st),some (.ref i),some (.ref j),some (.ref a),some (.ref b),some (.ref h.length),some (.lst ky),some (.bl lh),some (.ref (h.length + 1)),x12,x13,some (cD C),some (.tup [.ref K1,.ref K2]),some (.bl bd),x17]) ⟨rfl,_,_,rfl⟩ (fun _ _ _ _=>Src.ok_nil) ?_ ?_
        ·rintro p t r δ h' N1 e ⟨rfl,x12,x17,rfl⟩ hN1
         subst hT;subst hB
         refine name_in ?_
         (try dsimp only);refine seq_intro fun N hN=>?_
         simp only [VV]
         refine ⟨C,st,i,j,I',P',F0,rfl,gi,gj,hij,wf,hF0,st2,tI',tP',fun b2 hb2=>?_⟩
         have eb:b2=bd:=by rw [Bool.eq_iff_iff,hb2,hbd]
         subst eb
         subst hN
         (try dsimp only);refine if_intro fun A1 B1 hA hB=>?_
         simp only [VV]
         have ebb:(b2 == b2)=true:=by cases b2 <;> rfl
         simp only [ebb,VV]
         subst hB
         simp only [VV]
         exact hN1 _ _ ⟨rfl,_,_,rfl⟩
        ·rintro δ h' ⟨rfl,x12,x17,rfl⟩
         subst hN
         simp only [↓dRet,↓dAndV,↓dOp,↓dVar,List.getElem?_cons_succ,List.getElem?_cons_zero]
         refine pEq_same (n:=5) rfl (pd_c _ C) (pd_c _ C) (by decide) ?_
         simp only [VV]
         exact ⟨i,j,K1,K2,none,none,none,none,tbD I',tbD P',rfl,rfl,gi,k1,gj,k2,int_tb I',int_tb P',trivial⟩
       (try dsimp only);refine if_intro fun A1 B1 hA hB=>?_
       cases lh with
       |false=>simp only [VV];subst hB;simp only [VV];exact rest _ _
       |true =>
        simp only [len_ls (lsOf_ref hw),List.length_map,VV]
        by_cases z1:((ws.length:Int) == 1)=true
        ·have z2:ws.length=1:=Int.ofNat.inj (beq_iff_eq.mp z1)
         obtain ⟨w,hws⟩:=List.length_eq_one_iff.mp z2
         subst hws
         have e5:ixD hh (.ref (h.length + 1)) (.int 0)=some (nD w):=ix_ref0 hw
         simp only [z1,e5,VV]
         by_cases z3:(w:Int) < 2
         ·have up:=e1 (by rw [← wl];exact z2) fun x hx=>by rw [List.mem_singleton.mp hx];exact ltN z3
          have nb:bd=false:=by
           cases bd with
           |false=>rfl
           |true =>
            have sh:=hbd.mp rfl
            rcases up with ⟨u,rfl⟩ | ⟨rfl,u⟩
            ·exact absurd sh ((lst rfl).upI u)
            ·exact absurd sh ((lst rfl).upP u)
          subst nb
          simp only [z3,VV]
          subst hB
          simp only [VV]
          exact rest _ _
         ·simp only [z3,VV]
          subst hB
          simp only [VV]
          exact rest _ _
        ·rw [Bool.not_eq_true] at z1
         simp only [z1,VV]
         subst hB
         simp only [VV]
         exact rest _ _
     (try dsimp only);refine if_intro fun A1 B1 hA hB=>?_
     cases lh with
     |true =>
      simp only [VV]
      subst hB
      simp only [VV]
      obtain ⟨m1,m2⟩:=shut_ne wf sh hF0 st1 st2
      exact rest i j I P ei ej hij tI tP m1 m2 fun _=>lw (hlh rfl)
     |false =>
      simp only [VV]
      subst hA
      simp only [VV]
      refine ⟨_,_,rfl,?_⟩
      exact rest a b I2 P2 ea eb hab nI.1 nP.1 n1 n2 fun z=>nomatch z
    cases wide with
    |true =>
     simp only [VV]
     exact rest _ false fun z=>nomatch z
    |false =>
     simp only [VV]
     refine ⟨h.length,s0,5,rfl,get_new ..,by decide,fun s1 r1 hr1=>?_⟩
     rw [set_new]
     simp only [VV]
     exact rest _ _ fun _=>rfl
   exact rest _ _ _ hab (app_get ei) (app_get ej) ea eb
  (try dsimp only);refine if_intro fun A1 B1 hA hB=>?_
  cases wide with
  |true =>
   simp only [VV]
   subst hB
   simp only [VV]
   exact rest _ 0 1 I0 P0 rfl rfl (by decide) nI0.1 nP0.1 s0 fun z=>nomatch z
  |false =>
   simp only [VV]
   subst hA
   simp only [VV]
   refine ⟨C,st,F0,rfl,wf,sm,hF0,st2,fun I P l=>?_⟩
   simp only [VV]
   refine ⟨trivial,?_⟩
   exact rest _ 2 3 I P rfl rfl (by decide) l.ti l.tp l.shut fun _=>l
 (try dsimp only);refine if_intro fun A1 B1 hA hB=>?_
 cases wide with
 |true =>
  simp only [VV]
  subst hA
  simp only [VV]
  refine ⟨ns,rfl,hl,hb,fun C wf sm=>rest C wf sm⟩
 |false =>
  simp only [VV]
  subst hB
  simp only [VV]
  exact rest C0 wf0 sm0
theorem ok_q27{f:Addr}{fd:FuncData}(F:Fun K "law" "law" s_q27 f fd)(T:Txt P w K mg)(C_q2:Cal P w K mg base 4 "_law_chart" ["_law_script","_law_at","_law_many","_law_wide","_law_deep"] (spD K 5 S_q2))(C_q0:Cal P w K mg base 1 "_law_cell" ["_law_script","_law_k"] (spD K 2 S_q0))(C_q16:Cal P w K mg base 4 "_law_wide_chart" ["_law_script"] (spD K 1 S_q16))(C_q14:Cal P w K mg base 2 "_law_start" ["_law_script","_law_chart_here"] (spD K 2 S_q14))(C_q11:Cal P w K mg base 1 "_law_noughts" ["_law_chart_here"] (spD K 1 S_q11))(C_q8:Cal P w K mg base 3 "_law_least" ["_law_chart_here","_law_start_here"] (spD K 2 S_q8))(C_q25:Cal P w K mg base 5 "is_shut" ["chart","start","inside","places"] (spD K 4 S_q25))(C_q10:Cal P w K mg base 1 "_law_next" ["_law_state","_law_many"] (spD K 2 S_q10))(C_q1:Cal P w K mg base 2 "_law_changed" ["_law_known","_law_all_keys","_law_state","_law_way"] (spD K 4 S_q1))(C_q3:Cal P w K mg base 1 "_law_copy" ["_law_chart_here"] (spD K 1 S_q3))(C_q7:Cal P w K mg base 3 "_law_is_shut" ["_law_chart_here","_law_start_here","_law_inside","_law_places"] (spD K 4 S_q7)):FnOk P w K mg base CX0 6 f fd ["_law_script"] (spD K 1 S_q27) :=
 fn_ok (k:=5) (b:=b_q27) F sc_q27 (fun cdv A outer s H E hr=>by
  refine ss_cons ?_ ?_
  ·refine s_set (i:=1) ?_ ?_ ?_ ?_
   ·exact sc_q27.nd
   ·exact rfl
   ·exact Or.inl rfl
   exact se_cal C_q2 (hr.mono (by decide)) rfl (sa_cons (sv 0) (sa_cons se_int (sa_cons se_int (sa_cons se_int (sa_cons se_int sa_nil)))))
  refine ss_cons ?_ ?_
  ·refine s_set (i:=2) ?_ ?_ ?_ ?_
   ·exact sc_q27.nd
   ·exact rfl
   ·exact Or.inl rfl
   exact se_cmp (ok_eq hr.units) (se_op ok_mod (se_cal C_q0 (hr.mono (by decide)) rfl (sa_cons (sv 0) (sa_cons se_int sa_nil))) se_int) se_int (nomark _)
  refine ss_cons ?_ ?_
  ·refine s_if ?_ ?_ ?_
   ·exact st_truth (sv 2)
   ·refine ss_one ?_
    refine s_set (i:=1) ?_ ?_ ?_ ?_
    ·exact sc_q27.nd
    ·exact rfl
    ·exact Or.inl rfl
    exact se_cal C_q16 (hr.mono (by decide)) rfl (sa_cons (sv 0) sa_nil)
   exact ss_nil
  refine ss_cons ?_ ?_
  ·refine s_set (i:=3) ?_ ?_ ?_ ?_
   ·exact sc_q27.nd
   ·exact rfl
   ·exact Or.inl rfl
   exact se_cal C_q14 (hr.mono (by decide)) rfl (sa_cons (sv 0) (sa_cons (sv 1) sa_nil))
  refine ss_cons ?_ ?_
  ·exact s_asg (se_cal C_q11 (hr.mono (by decide)) rfl (sa_cons (sv 1) sa_nil)) (sg_tup rfl (sgs_cons (sg_name (i:=4) sc_q27.nd rfl (Or.inl rfl)) (sgs_cons (sg_name (i:=5) sc_q27.nd rfl (Or.inl rfl)) sgs_nil)))
  refine ss_cons ?_ ?_
  ·refine s_if ?_ ?_ ?_
   ·exact st_not (st_truth (sv 2))
   ·refine ss_one ?_
    exact s_asg (se_cal C_q8 (hr.mono (by decide)) rfl (sa_cons (sv 1) (sa_cons (sv 3) sa_nil))) (sg_tup rfl (sgs_cons (sg_name (i:=4) sc_q27.nd rfl (Or.inl rfl)) (sgs_cons (sg_name (i:=5) sc_q27.nd rfl (Or.inl rfl)) sgs_nil)))
   exact ss_nil
  refine ss_cons ?_ ?_
  ·exact s_asg (se_cal C_q11 (hr.mono (by decide)) rfl (sa_cons (sv 1) sa_nil)) (sg_tup rfl (sgs_cons (sg_name (i:=6) sc_q27.nd rfl (Or.inl rfl)) (sgs_cons (sg_name (i:=7) sc_q27.nd rfl (Or.inl rfl)) sgs_nil)))
  refine ss_cons ?_ ?_
  ·refine s_set (i:=8) ?_ ?_ ?_ ?_
   ·exact sc_q27.nd
   ·exact rfl
   ·exact Or.inl rfl
   exact se_t (sn_lst (sa_cons (se_op ok_plus (se_callB (ok_sum rfl) rfl T.b_sum PyProof.Rows.boot_sum (sa_cons (se_v (sn_comp rfl (N':= ["_law_cell_here"]) (js:=[none]) ⟨rfl,by decide +kernel,rfl,rfl,rfl⟩ (si_seq (se_sl (sv 0) so_none (so_some se_int))) (fun s0 H0 fp=>⟨(sg_name (i:=0) (show (["_law_cell_here"]:List Str).Nodup by decide +kernel) rfl (Or.inl rfl)),sf_nil,(se_op ok_mod (sv 0) se_int)⟩))) sa_nil)) se_int) sa_nil))
  refine ss_cons ?_ ?_
  ·refine s_if ?_ ?_ ?_
   ·exact st_w (sw_or (st_not (st_truth (se_cal C_q25 (hr.mono (by decide)) rfl (sa_cons (sv 1) (sa_cons (sv 3) (sa_cons (sv 4) (sa_cons (sv 5) sa_nil))))))) (sw_or1 (st_not (st_truth (se_cal C_q25 (hr.mono (by decide)) rfl (sa_cons (sv 1) (sa_cons (sv 3) (sa_cons (sv 6) (sa_cons (sv 7) sa_nil)))))))))
   ·refine ss_one ?_
    refine s_ret ?_
    exact se_bl
   exact ss_nil
  refine ss_cons ?_ ?_
  ·refine s_set (i:=9) ?_ ?_ ?_ ?_
   ·exact sc_q27.nd
   ·exact rfl
   ·exact Or.inl rfl
   refine se_v ?_
   refine sn_lst (n:=2) ?_
   refine sa_cons ?_ ?_
   ·refine se_v ?_
    exact sn_sortT rfl rfl T.b_sorted (sa_cons (sv 6) sa_nil)
   refine sa_cons ?_ ?_
   ·refine se_v ?_
    exact sn_sortT rfl rfl T.b_sorted (sa_cons (sv 7) sa_nil)
   exact sa_nil
  refine ss_cons ?_ ?_
  ·refine s_set (i:=10) ?_ ?_ ?_ ?_
   ·exact sc_q27.nd
   ·exact rfl
   ·exact Or.inl rfl
   exact se_and (se_not (sv 2)) (se_one (se_cmp ok_gt (se_cal C_q10 (hr.mono (by decide)) rfl (sa_cons (sv 8) (sa_cons se_int sa_nil))) se_int (nomark _)))
  refine ss_cons ?_ ?_
  ·refine s_if ?_ ?_ ?_
   ·exact st_not (st_truth (sv 10))
   ·refine ss_one ?_
    exact s_par rfl sc_q27.nd rfl rfl (by decide) rfl rfl (sa_cons (sv 6) (sa_cons (sv 7) sa_nil))
   exact ss_nil
  refine ss_cons ?_ ?_
  ·refine s_set (i:=11) ?_ ?_ ?_ ?_
   ·exact sc_q27.nd
   ·exact rfl
   ·exact Or.inl rfl
   exact se_t (sn_lst sa_nil)
  refine ss_cons ?_ ?_
  ·refine s_for ?_ ?_ ?_ ?_ ?_
   ·exact PassesOwn.never
   ·exact rfl
   ·exact si_range1 rfl T.b_range (sa_cons (se_op ok_plus se_int (se_cal C_q10 (hr.mono (by decide)) rfl (sa_cons (sv 8) (sa_cons se_int sa_nil)))) sa_nil)
   ·exact sg_name (i:=12) sc_q27.nd rfl (Or.inl rfl)
   refine ss_cons ?_ ?_
   ·refine s_expr ?_
    exact se_append (sv 11) (sa_cons (se_cal C_q10 (hr.mono (by decide)) rfl (sa_cons (sv 8) (sa_cons se_int sa_nil))) sa_nil)
   refine ss_cons ?_ ?_
   ·refine s_set (i:=13) ?_ ?_ ?_ ?_
    ·exact sc_q27.nd
    ·exact rfl
    ·exact Or.inl rfl
    exact se_cal C_q10 (hr.mono (by decide)) rfl (sa_cons (sv 8) (sa_cons se_int sa_nil))
   refine ss_one ?_
   refine s_if ?_ ?_ ?_
   ·exact st_cmp ok_gt (se_callB ok_lenT rfl T.b_len PySem.boot_len (sa_cons (se_ix ok_ix (se_v (sn_lst (sa_cons (sv 4) (sa_cons (sv 5) sa_nil)))) (sv 13) (fun _ _=>rfl)) sa_nil)) se_int (nomark _)
   ·refine ss_one ?_
    refine s_expr ?_
    exact se_cal C_q1 (hr.mono (by decide)) rfl (sa_cons (se_ix ok_ix (se_v (sn_lst (sa_cons (sv 4) (sa_cons (sv 5) sa_nil)))) (sv 13) (fun _ _=>rfl)) (sa_cons (se_ix ok_ix (sv 9) (sv 13) (fun _ _=>rfl)) (sa_cons (sv 8) (sa_cons (se_ix ok_ix (sv 11) (sv 12) (fun _ _=>rfl)) sa_nil))))
   exact ss_nil
  refine ss_cons ?_ ?_
  ·refine s_set (i:=14) ?_ ?_ ?_ ?_
   ·exact sc_q27.nd
   ·exact rfl
   ·exact Or.inl rfl
   exact se_cal C_q3 (hr.mono (by decide)) rfl (sa_cons (sv 1) sa_nil)
  refine ss_cons ?_ ?_
  ·refine s_set (i:=15) ?_ ?_ ?_ ?_
   ·exact sc_q27.nd
   ·exact rfl
   ·exact Or.inl rfl
   refine se_tup (n:=2) ?_
   refine sa_cons ?_ ?_
   ·exact se_dictT rfl T.b_dict (sa_cons (sv 4) sa_nil)
   refine sa_cons ?_ ?_
   ·exact se_dictT rfl T.b_dict (sa_cons (sv 5) sa_nil)
   exact sa_nil
  refine ss_cons ?_ ?_
  ·refine s_set (i:=16) ?_ ?_ ?_ ?_
   ·exact sc_q27.nd
   ·exact rfl
   ·exact Or.inl rfl
   exact se_cal C_q7 (hr.mono (by decide)) rfl (sa_cons (sv 1) (sa_cons (sv 3) (sa_cons (sv 4) (sa_cons (sv 5) sa_nil))))
  refine ss_cons ?_ ?_
  ·refine s_if ?_ ?_ ?_
   ·exact st_w (sw_and (st_truth (sv 10)) (sw_and (st_cmp (ok_eq hr.units) (se_callB ok_len rfl T.b_len PySem.boot_len (sa_cons (sv 11) sa_nil)) se_int (nomark _)) (sw_and (st_cmp ok_ltI (se_ix ok_ix (sv 11) se_int (fun _ _=>rfl)) se_int (nomark _)) (sw_and1 (st_truth (sv 16))))))
   ·refine ss_one ?_
    refine s_ret ?_
    exact se_bl
   exact ss_nil
  refine ss_cons ?_ ?_
  ·refine s_for ?_ ?_ ?_ ?_ ?_
   ·exact PassesOwn.never
   ·exact rfl
   ·exact si_range1 rfl T.b_range (sa_cons se_int sa_nil)
   ·exact sg_name (i:=12) sc_q27.nd rfl (Or.inl rfl)
   refine ss_cons ?_ ?_
   ·refine s_set (i:=17) ?_ ?_ ?_ ?_
    ·exact sc_q27.nd
    ·exact rfl
    ·exact Or.inl rfl
    exact se_cal C_q25 (hr.mono (by decide)) rfl (sa_cons (sv 14) (sa_cons (sv 3) (sa_cons (sv 4) (sa_cons (sv 5) sa_nil))))
   refine ss_one ?_
   refine s_if ?_ ?_ ?_
   ·exact st_w (sw_or (st_not (st_truth (se_isinst (by decide) rfl T.b_isinstance (sv 17) (pe_bltn (v:=.ty "bool") rfl T.b_bool PyProof.Rows.boot_bool rfl)))) (sw_or1 (st_cmp (ok_ne hr.units) (sv 17) (sv 16) (nomark _))))
   ·refine ss_one ?_
    refine s_ret ?_
    exact se_bl
   exact ss_nil
  refine ss_one ?_
  refine s_ret ?_
  exact se_and (se_cmp (ok_eq hr.units) (sv 14) (sv 1) (nomark _)) (se_one (se_cmp (ok_eqDD hr.units) (se_tup (sa_cons (sv 4) (sa_cons (sv 5) sa_nil))) (sv 15) (nomark _)))) imp_q27
end
theorem kd_MOVE_TABLES{P:Program}{w:World}{K:PySem.W.Frag}{a:Addr}{t1 t2 t3 t4 t5 t6:Tok}{ep:Nat}(l:K.lookup a=some { cls:=.type "dict",data:=.dict #[{ hash:=PyData.keyHash w.params "step",key:=.str "step" t1,val:=.int 4 t2 },{ hash:=PyData.keyHash w.params "in",key:=.str "in" t3,val:=.int 5 t4 },{ hash:=PyData.keyHash w.params "over",key:=.str "over" t5,val:=.int 7 t6 }] ep }):KDict P w K a (k_MOVE_TABLES.map fun p=>(p.1,V.int p.2)):=by
 have ks:∀ (x:Str) (t:Tok),keyIs (.inr x) (.str x t)=true:=fun x t=>by simp [keyIs,Value.isStrOf]
 refine ⟨_,_,_,[(.inr "step",.int 4 t2),(.inr "in",.int 5 t4),(.inr "over",.int 7 t6)],l,⟨rfl,rfl,rfl⟩,rfl,?_,.cons (ks _ t1) rfl (.cons (ks _ t3) rfl (.cons (ks _ t5) rfl .nil)),(show [(.inr "step":Key),.inr "in",.inr "over"].Nodup by decide +kernel),.cons ⟨rfl,⟨_,rfl⟩⟩ (.cons ⟨rfl,⟨_,rfl⟩⟩ (.cons ⟨rfl,⟨_,rfl⟩⟩ .nil))⟩
 intro e he
 simp only [List.mem_toArray,List.mem_cons,List.not_mem_nil,or_false] at he
 rcases he with rfl | rfl | rfl
 ·exact ⟨.inr "step",ks _ t1,rfl⟩
 ·exact ⟨.inr "in",ks _ t3,rfl⟩
 ·exact ⟨.inr "over",ks _ t5,rfl⟩
theorem len_s{α:Type}{n:Nat}{us:List α}(h:us.length=n + 1):∃ a t,us=a :: t∧t.length=n:=by
 cases us with
 |nil=>cases h
 |cons a t=>exact ⟨a,t,rfl,Nat.succ.inj h⟩
theorem len_z{α:Type}{us:List α}(h:us.length=0):us=[]:=List.length_eq_zero_iff.mp h
theorem ln1{F:FuncData}{ps:List Str}{us:List Value}(h:us.length=1)(k:∀ a,bindArgs F ⟨[a],[]⟩=pure (ps.zip [a])):bindArgs F ⟨us,[]⟩=pure (ps.zip us):=by
 obtain ⟨a,us1,rfl,h1⟩:=len_s h
 cases len_z h1
 exact k a
theorem ln2{F:FuncData}{ps:List Str}{us:List Value}(h:us.length=2)(k:∀ a b,bindArgs F ⟨[a,b],[]⟩=pure (ps.zip [a,b])):bindArgs F ⟨us,[]⟩=pure (ps.zip us):=by
 obtain ⟨a,us1,rfl,h1⟩:=len_s h
 obtain ⟨b,us2,rfl,h2⟩:=len_s h1
 cases len_z h2
 exact k a b
theorem ln3{F:FuncData}{ps:List Str}{us:List Value}(h:us.length=3)(k:∀ a b c,bindArgs F ⟨[a,b,c],[]⟩=pure (ps.zip [a,b,c])):bindArgs F ⟨us,[]⟩=pure (ps.zip us):=by
 obtain ⟨a,us1,rfl,h1⟩:=len_s h
 obtain ⟨b,us2,rfl,h2⟩:=len_s h1
 obtain ⟨c,us3,rfl,h3⟩:=len_s h2
 cases len_z h3
 exact k a b c
theorem ln4{F:FuncData}{ps:List Str}{us:List Value}(h:us.length=4)(k:∀ a b c d,bindArgs F ⟨[a,b,c,d],[]⟩=pure (ps.zip [a,b,c,d])):bindArgs F ⟨us,[]⟩=pure (ps.zip us):=by
 obtain ⟨a,us1,rfl,h1⟩:=len_s h
 obtain ⟨b,us2,rfl,h2⟩:=len_s h1
 obtain ⟨c,us3,rfl,h3⟩:=len_s h2
 obtain ⟨d,us4,rfl,h4⟩:=len_s h3
 cases len_z h4
 exact k a b c d
theorem ln5{F:FuncData}{ps:List Str}{us:List Value}(h:us.length=5)(k:∀ a b c d e,bindArgs F ⟨[a,b,c,d,e],[]⟩=pure (ps.zip [a,b,c,d,e])):bindArgs F ⟨us,[]⟩=pure (ps.zip us):=by
 obtain ⟨a,us1,rfl,h1⟩:=len_s h
 obtain ⟨b,us2,rfl,h2⟩:=len_s h1
 obtain ⟨c,us3,rfl,h3⟩:=len_s h2
 obtain ⟨d,us4,rfl,h4⟩:=len_s h3
 obtain ⟨e,us5,rfl,h5⟩:=len_s h4
 cases len_z h5
 exact k a b c d e
theorem ln6{F:FuncData}{ps:List Str}{us:List Value}(h:us.length=6)(k:∀ a b c d e f,bindArgs F ⟨[a,b,c,d,e,f],[]⟩=pure (ps.zip [a,b,c,d,e,f])):bindArgs F ⟨us,[]⟩=pure (ps.zip us):=by
 obtain ⟨a,us1,rfl,h1⟩:=len_s h
 obtain ⟨b,us2,rfl,h2⟩:=len_s h1
 obtain ⟨c,us3,rfl,h3⟩:=len_s h2
 obtain ⟨d,us4,rfl,h4⟩:=len_s h3
 obtain ⟨e,us5,rfl,h5⟩:=len_s h4
 obtain ⟨f,us6,rfl,h6⟩:=len_s h5
 cases len_z h6
 exact k a b c d e f
theorem all_mk{l:PySem.W.OpenLaw}{w:World}{K:PySem.W.Frag}{h:Heap}{mg:Str→Option Value}{fa a_q22 a_q21 a_q29 a_q20 a_q30 a_q25 a_q19 a_q24 a_q28 a_q17 a_q23 a_q18 a_q26 a_q0 a_q10 a_q4 a_q15 a_q5 a_q2 a_q14 a_q3 a_q6 a_q13 a_q12 a_q9 a_q8 a_q11 a_q7 a_q1 a_q16 a_q27:Addr}(X:K.In h)(G:h.Ns mainGlobals mg)(hfa:mg "law" = some (.ref fa))
  {od_q22 an_q22:Option Addr} {sl_q22:Array (Option Value)} {oc_q22 kV_q22 dc_q22 pm_q22 cd_q22 ct_q22:Value}
  {od_q21 an_q21:Option Addr} {sl_q21:Array (Option Value)} {oc_q21 kV_q21 dc_q21 pm_q21 cd_q21 ct_q21:Value}
  {od_q29 an_q29:Option Addr} {sl_q29:Array (Option Value)} {oc_q29 kV_q29 dc_q29 pm_q29 cd_q29 ct_q29:Value}
  {od_q20 an_q20:Option Addr} {sl_q20:Array (Option Value)} {oc_q20 kV_q20 dc_q20 pm_q20 cd_q20 ct_q20:Value}
  {od_q30 an_q30:Option Addr} {sl_q30:Array (Option Value)} {oc_q30 kV_q30 dc_q30 pm_q30 cd_q30 ct_q30:Value}
  {od_q25 an_q25:Option Addr} {sl_q25:Array (Option Value)} {oc_q25 kV_q25 dc_q25 pm_q25 cd_q25 ct_q25:Value}
  {od_q19 an_q19:Option Addr} {sl_q19:Array (Option Value)} {oc_q19 kV_q19 dc_q19 pm_q19 cd_q19 ct_q19:Value}
  {od_q24 an_q24:Option Addr} {sl_q24:Array (Option Value)} {oc_q24 kV_q24 dc_q24 pm_q24 cd_q24 ct_q24:Value}
  {od_q28 an_q28:Option Addr} {sl_q28:Array (Option Value)} {oc_q28 kV_q28 dc_q28 pm_q28 cd_q28 ct_q28:Value}
  {od_q17 an_q17:Option Addr} {sl_q17:Array (Option Value)} {oc_q17 kV_q17 dc_q17 pm_q17 cd_q17 ct_q17:Value}
  {od_q23 an_q23:Option Addr} {sl_q23:Array (Option Value)} {oc_q23 kV_q23 dc_q23 pm_q23 cd_q23 ct_q23:Value}
  {od_q18 an_q18:Option Addr} {sl_q18:Array (Option Value)} {oc_q18 kV_q18 dc_q18 pm_q18 cd_q18 ct_q18:Value}
  {od_q26 an_q26:Option Addr} {sl_q26:Array (Option Value)} {oc_q26 kV_q26 dc_q26 pm_q26 cd_q26 ct_q26:Value}
  {od_q0 an_q0:Option Addr} {sl_q0:Array (Option Value)} {oc_q0 kV_q0 dc_q0 pm_q0 cd_q0 ct_q0:Value}
  {od_q10 an_q10:Option Addr} {sl_q10:Array (Option Value)} {oc_q10 kV_q10 dc_q10 pm_q10 cd_q10 ct_q10:Value}
  {od_q4 an_q4:Option Addr} {sl_q4:Array (Option Value)} {oc_q4 kV_q4 dc_q4 pm_q4 cd_q4 ct_q4:Value}
  {od_q15 an_q15:Option Addr} {sl_q15:Array (Option Value)} {oc_q15 kV_q15 dc_q15 pm_q15 cd_q15 ct_q15:Value}
  {od_q5 an_q5:Option Addr} {sl_q5:Array (Option Value)} {oc_q5 kV_q5 dc_q5 pm_q5 cd_q5 ct_q5:Value}
  {od_q2 an_q2:Option Addr} {sl_q2:Array (Option Value)} {oc_q2 kV_q2 dc_q2 pm_q2 cd_q2 ct_q2:Value}
  {od_q14 an_q14:Option Addr} {sl_q14:Array (Option Value)} {oc_q14 kV_q14 dc_q14 pm_q14 cd_q14 ct_q14:Value}
  {od_q3 an_q3:Option Addr} {sl_q3:Array (Option Value)} {oc_q3 kV_q3 dc_q3 pm_q3 cd_q3 ct_q3:Value}
  {od_q6 an_q6:Option Addr} {sl_q6:Array (Option Value)} {oc_q6 kV_q6 dc_q6 pm_q6 cd_q6 ct_q6:Value}
  {od_q13 an_q13:Option Addr} {sl_q13:Array (Option Value)} {oc_q13 kV_q13 dc_q13 pm_q13 cd_q13 ct_q13:Value}
  {od_q12 an_q12:Option Addr} {sl_q12:Array (Option Value)} {oc_q12 kV_q12 dc_q12 pm_q12 cd_q12 ct_q12:Value}
  {od_q9 an_q9:Option Addr} {sl_q9:Array (Option Value)} {oc_q9 kV_q9 dc_q9 pm_q9 cd_q9 ct_q9:Value}
  {od_q8 an_q8:Option Addr} {sl_q8:Array (Option Value)} {oc_q8 kV_q8 dc_q8 pm_q8 cd_q8 ct_q8:Value}
  {od_q11 an_q11:Option Addr} {sl_q11:Array (Option Value)} {oc_q11 kV_q11 dc_q11 pm_q11 cd_q11 ct_q11:Value}
  {od_q7 an_q7:Option Addr} {sl_q7:Array (Option Value)} {oc_q7 kV_q7 dc_q7 pm_q7 cd_q7 ct_q7:Value}
  {od_q1 an_q1:Option Addr} {sl_q1:Array (Option Value)} {oc_q1 kV_q1 dc_q1 pm_q1 cd_q1 ct_q1:Value}
  {od_q16 an_q16:Option Addr} {sl_q16:Array (Option Value)} {oc_q16 kV_q16 dc_q16 pm_q16 cd_q16 ct_q16:Value}
  {od_q27 an_q27:Option Addr} {sl_q27:Array (Option Value)} {oc_q27 kV_q27 dc_q27 pm_q27 cd_q27 ct_q27:Value}
  (e_q22:PySem.W.nsIn K mainGlobals "facts_in" = some (some (.ref a_q22))) (l_q22:K.lookup a_q22=some ⟨oc_q22,od_q22,.func (PySem.W.fnOf "facts_in" "facts_in" (defArgs s_q22) (defBody s_q22) (defScope s_q22) .none kV_q22 dc_q22 pm_q22 an_q22 cd_q22 ct_q22),sl_q22⟩) (c_q22:PySem.W.codeIn K cd_q22 "facts_in" = true) (k_q22:PySem.W.keepIn K (.ref a_q22)=true)
  (e_q21:PySem.W.nsIn K mainGlobals "exit_of" = some (some (.ref a_q21))) (l_q21:K.lookup a_q21=some ⟨oc_q21,od_q21,.func (PySem.W.fnOf "exit_of" "exit_of" (defArgs s_q21) (defBody s_q21) (defScope s_q21) .none kV_q21 dc_q21 pm_q21 an_q21 cd_q21 ct_q21),sl_q21⟩) (c_q21:PySem.W.codeIn K cd_q21 "exit_of" = true) (k_q21:PySem.W.keepIn K (.ref a_q21)=true)
  (e_q29:PySem.W.nsIn K mainGlobals "start_facts" = some (some (.ref a_q29))) (l_q29:K.lookup a_q29=some ⟨oc_q29,od_q29,.func (PySem.W.fnOf "start_facts" "start_facts" (defArgs s_q29) (defBody s_q29) (defScope s_q29) .none kV_q29 dc_q29 pm_q29 an_q29 cd_q29 ct_q29),sl_q29⟩) (c_q29:PySem.W.codeIn K cd_q29 "start_facts" = true) (k_q29:PySem.W.keepIn K (.ref a_q29)=true)
  (e_q20:PySem.W.nsIn K mainGlobals "edges_from" = some (some (.ref a_q20))) (l_q20:K.lookup a_q20=some ⟨oc_q20,od_q20,.func (PySem.W.fnOf "edges_from" "edges_from" (defArgs s_q20) (defBody s_q20) (defScope s_q20) .none kV_q20 dc_q20 pm_q20 an_q20 cd_q20 ct_q20),sl_q20⟩) (c_q20:PySem.W.codeIn K cd_q20 "edges_from" = true) (k_q20:PySem.W.keepIn K (.ref a_q20)=true)
  (e_q30:PySem.W.nsIn K mainGlobals "table_past" = some (some (.ref a_q30))) (l_q30:K.lookup a_q30=some ⟨oc_q30,od_q30,.func (PySem.W.fnOf "table_past" "table_past" (defArgs s_q30) (defBody s_q30) (defScope s_q30) .none kV_q30 dc_q30 pm_q30 an_q30 cd_q30 ct_q30),sl_q30⟩) (c_q30:PySem.W.codeIn K cd_q30 "table_past" = true) (k_q30:PySem.W.keepIn K (.ref a_q30)=true)
  (e_q25:PySem.W.nsIn K mainGlobals "is_shut" = some (some (.ref a_q25))) (l_q25:K.lookup a_q25=some ⟨oc_q25,od_q25,.func (PySem.W.fnOf "is_shut" "is_shut" (defArgs s_q25) (defBody s_q25) (defScope s_q25) .none kV_q25 dc_q25 pm_q25 an_q25 cd_q25 ct_q25),sl_q25⟩) (c_q25:PySem.W.codeIn K cd_q25 "is_shut" = true) (k_q25:PySem.W.keepIn K (.ref a_q25)=true)
  (e_q19:PySem.W.nsIn K mainGlobals "begins_are_told" = some (some (.ref a_q19))) (l_q19:K.lookup a_q19=some ⟨oc_q19,od_q19,.func (PySem.W.fnOf "begins_are_told" "begins_are_told" (defArgs s_q19) (defBody s_q19) (defScope s_q19) .none kV_q19 dc_q19 pm_q19 an_q19 cd_q19 ct_q19),sl_q19⟩) (c_q19:PySem.W.codeIn K cd_q19 "begins_are_told" = true) (k_q19:PySem.W.keepIn K (.ref a_q19)=true)
  (e_q24:PySem.W.nsIn K mainGlobals "inside_is_shut" = some (some (.ref a_q24))) (l_q24:K.lookup a_q24=some ⟨oc_q24,od_q24,.func (PySem.W.fnOf "inside_is_shut" "inside_is_shut" (defArgs s_q24) (defBody s_q24) (defScope s_q24) .none kV_q24 dc_q24 pm_q24 an_q24 cd_q24 ct_q24),sl_q24⟩) (c_q24:PySem.W.codeIn K cd_q24 "inside_is_shut" = true) (k_q24:PySem.W.keepIn K (.ref a_q24)=true)
  (e_q28:PySem.W.nsIn K mainGlobals "shorts_are_told" = some (some (.ref a_q28))) (l_q28:K.lookup a_q28=some ⟨oc_q28,od_q28,.func (PySem.W.fnOf "shorts_are_told" "shorts_are_told" (defArgs s_q28) (defBody s_q28) (defScope s_q28) .none kV_q28 dc_q28 pm_q28 an_q28 cd_q28 ct_q28),sl_q28⟩) (c_q28:PySem.W.codeIn K cd_q28 "shorts_are_told" = true) (k_q28:PySem.W.keepIn K (.ref a_q28)=true)
  (e_q17:PySem.W.nsIn K mainGlobals "alongs_are_told" = some (some (.ref a_q17))) (l_q17:K.lookup a_q17=some ⟨oc_q17,od_q17,.func (PySem.W.fnOf "alongs_are_told" "alongs_are_told" (defArgs s_q17) (defBody s_q17) (defScope s_q17) .none kV_q17 dc_q17 pm_q17 an_q17 cd_q17 ct_q17),sl_q17⟩) (c_q17:PySem.W.codeIn K cd_q17 "alongs_are_told" = true) (k_q17:PySem.W.keepIn K (.ref a_q17)=true)
  (e_q23:PySem.W.nsIn K mainGlobals "ins_are_told" = some (some (.ref a_q23))) (l_q23:K.lookup a_q23=some ⟨oc_q23,od_q23,.func (PySem.W.fnOf "ins_are_told" "ins_are_told" (defArgs s_q23) (defBody s_q23) (defScope s_q23) .none kV_q23 dc_q23 pm_q23 an_q23 cd_q23 ct_q23),sl_q23⟩) (c_q23:PySem.W.codeIn K cd_q23 "ins_are_told" = true) (k_q23:PySem.W.keepIn K (.ref a_q23)=true)
  (e_q18:PySem.W.nsIn K mainGlobals "are_told" = some (some (.ref a_q18))) (l_q18:K.lookup a_q18=some ⟨oc_q18,od_q18,.func (PySem.W.fnOf "are_told" "are_told" (defArgs s_q18) (defBody s_q18) (defScope s_q18) .none kV_q18 dc_q18 pm_q18 an_q18 cd_q18 ct_q18),sl_q18⟩) (c_q18:PySem.W.codeIn K cd_q18 "are_told" = true) (k_q18:PySem.W.keepIn K (.ref a_q18)=true)
  (e_q26:PySem.W.nsIn K mainGlobals "is_told" = some (some (.ref a_q26))) (l_q26:K.lookup a_q26=some ⟨oc_q26,od_q26,.func (PySem.W.fnOf "is_told" "is_told" (defArgs s_q26) (defBody s_q26) (defScope s_q26) .none kV_q26 dc_q26 pm_q26 an_q26 cd_q26 ct_q26),sl_q26⟩) (c_q26:PySem.W.codeIn K cd_q26 "is_told" = true) (k_q26:PySem.W.keepIn K (.ref a_q26)=true)
  (e_q0:PySem.W.nsIn K mainGlobals "_law_cell" = some (some (.ref a_q0))) (l_q0:K.lookup a_q0=some ⟨oc_q0,od_q0,.func (PySem.W.fnOf "_law_cell" "_law_cell" (defArgs s_q0) (defBody s_q0) (defScope s_q0) .none kV_q0 dc_q0 pm_q0 an_q0 cd_q0 ct_q0),sl_q0⟩) (c_q0:PySem.W.codeIn K cd_q0 "_law_cell" = true) (k_q0:PySem.W.keepIn K (.ref a_q0)=true)
  (e_q10:PySem.W.nsIn K mainGlobals "_law_next" = some (some (.ref a_q10))) (l_q10:K.lookup a_q10=some ⟨oc_q10,od_q10,.func (PySem.W.fnOf "_law_next" "_law_next" (defArgs s_q10) (defBody s_q10) (defScope s_q10) .none kV_q10 dc_q10 pm_q10 an_q10 cd_q10 ct_q10),sl_q10⟩) (c_q10:PySem.W.codeIn K cd_q10 "_law_next" = true) (k_q10:PySem.W.keepIn K (.ref a_q10)=true)
  (e_q4:PySem.W.nsIn K mainGlobals "_law_cost" = some (some (.ref a_q4))) (l_q4:K.lookup a_q4=some ⟨oc_q4,od_q4,.func (PySem.W.fnOf "_law_cost" "_law_cost" (defArgs s_q4) (defBody s_q4) (defScope s_q4) .none kV_q4 dc_q4 pm_q4 an_q4 cd_q4 ct_q4),sl_q4⟩) (c_q4:PySem.W.codeIn K cd_q4 "_law_cost" = true) (k_q4:PySem.W.keepIn K (.ref a_q4)=true)
  (e_q15:PySem.W.nsIn K mainGlobals "_law_table" = some (some (.ref a_q15))) (l_q15:K.lookup a_q15=some ⟨oc_q15,od_q15,.func (PySem.W.fnOf "_law_table" "_law_table" (defArgs s_q15) (defBody s_q15) (defScope s_q15) .none kV_q15 dc_q15 pm_q15 an_q15 cd_q15 ct_q15),sl_q15⟩) (c_q15:PySem.W.codeIn K cd_q15 "_law_table" = true) (k_q15:PySem.W.keepIn K (.ref a_q15)=true)
  (e_q5:PySem.W.nsIn K mainGlobals "_law_edge" = some (some (.ref a_q5))) (l_q5:K.lookup a_q5=some ⟨oc_q5,od_q5,.func (PySem.W.fnOf "_law_edge" "_law_edge" (defArgs s_q5) (defBody s_q5) (defScope s_q5) .none kV_q5 dc_q5 pm_q5 an_q5 cd_q5 ct_q5),sl_q5⟩) (c_q5:PySem.W.codeIn K cd_q5 "_law_edge" = true) (k_q5:PySem.W.keepIn K (.ref a_q5)=true)
  (e_q2:PySem.W.nsIn K mainGlobals "_law_chart" = some (some (.ref a_q2))) (l_q2:K.lookup a_q2=some ⟨oc_q2,od_q2,.func (PySem.W.fnOf "_law_chart" "_law_chart" (defArgs s_q2) (defBody s_q2) (defScope s_q2) .none kV_q2 dc_q2 pm_q2 an_q2 cd_q2 ct_q2),sl_q2⟩) (c_q2:PySem.W.codeIn K cd_q2 "_law_chart" = true) (k_q2:PySem.W.keepIn K (.ref a_q2)=true)
  (e_q14:PySem.W.nsIn K mainGlobals "_law_start" = some (some (.ref a_q14))) (l_q14:K.lookup a_q14=some ⟨oc_q14,od_q14,.func (PySem.W.fnOf "_law_start" "_law_start" (defArgs s_q14) (defBody s_q14) (defScope s_q14) .none kV_q14 dc_q14 pm_q14 an_q14 cd_q14 ct_q14),sl_q14⟩) (c_q14:PySem.W.codeIn K cd_q14 "_law_start" = true) (k_q14:PySem.W.keepIn K (.ref a_q14)=true)
  (e_q3:PySem.W.nsIn K mainGlobals "_law_copy" = some (some (.ref a_q3))) (l_q3:K.lookup a_q3=some ⟨oc_q3,od_q3,.func (PySem.W.fnOf "_law_copy" "_law_copy" (defArgs s_q3) (defBody s_q3) (defScope s_q3) .none kV_q3 dc_q3 pm_q3 an_q3 cd_q3 ct_q3),sl_q3⟩) (c_q3:PySem.W.codeIn K cd_q3 "_law_copy" = true) (k_q3:PySem.W.keepIn K (.ref a_q3)=true)
  (e_q6:PySem.W.nsIn K mainGlobals "_law_facts" = some (some (.ref a_q6))) (l_q6:K.lookup a_q6=some ⟨oc_q6,od_q6,.func (PySem.W.fnOf "_law_facts" "_law_facts" (defArgs s_q6) (defBody s_q6) (defScope s_q6) .none kV_q6 dc_q6 pm_q6 an_q6 cd_q6 ct_q6),sl_q6⟩) (c_q6:PySem.W.codeIn K cd_q6 "_law_facts" = true) (k_q6:PySem.W.keepIn K (.ref a_q6)=true)
  (e_q13:PySem.W.nsIn K mainGlobals "_law_pairs" = some (some (.ref a_q13))) (l_q13:K.lookup a_q13=some ⟨oc_q13,od_q13,.func (PySem.W.fnOf "_law_pairs" "_law_pairs" (defArgs s_q13) (defBody s_q13) (defScope s_q13) .none kV_q13 dc_q13 pm_q13 an_q13 cd_q13 ct_q13),sl_q13⟩) (c_q13:PySem.W.codeIn K cd_q13 "_law_pairs" = true) (k_q13:PySem.W.keepIn K (.ref a_q13)=true)
  (e_q12:PySem.W.nsIn K mainGlobals "_law_outer" = some (some (.ref a_q12))) (l_q12:K.lookup a_q12=some ⟨oc_q12,od_q12,.func (PySem.W.fnOf "_law_outer" "_law_outer" (defArgs s_q12) (defBody s_q12) (defScope s_q12) .none kV_q12 dc_q12 pm_q12 an_q12 cd_q12 ct_q12),sl_q12⟩) (c_q12:PySem.W.codeIn K cd_q12 "_law_outer" = true) (k_q12:PySem.W.keepIn K (.ref a_q12)=true)
  (e_q9:PySem.W.nsIn K mainGlobals "_law_lowered" = some (some (.ref a_q9))) (l_q9:K.lookup a_q9=some ⟨oc_q9,od_q9,.func (PySem.W.fnOf "_law_lowered" "_law_lowered" (defArgs s_q9) (defBody s_q9) (defScope s_q9) .none kV_q9 dc_q9 pm_q9 an_q9 cd_q9 ct_q9),sl_q9⟩) (c_q9:PySem.W.codeIn K cd_q9 "_law_lowered" = true) (k_q9:PySem.W.keepIn K (.ref a_q9)=true)
  (e_q8:PySem.W.nsIn K mainGlobals "_law_least" = some (some (.ref a_q8))) (l_q8:K.lookup a_q8=some ⟨oc_q8,od_q8,.func (PySem.W.fnOf "_law_least" "_law_least" (defArgs s_q8) (defBody s_q8) (defScope s_q8) .none kV_q8 dc_q8 pm_q8 an_q8 cd_q8 ct_q8),sl_q8⟩) (c_q8:PySem.W.codeIn K cd_q8 "_law_least" = true) (k_q8:PySem.W.keepIn K (.ref a_q8)=true)
  (e_q11:PySem.W.nsIn K mainGlobals "_law_noughts" = some (some (.ref a_q11))) (l_q11:K.lookup a_q11=some ⟨oc_q11,od_q11,.func (PySem.W.fnOf "_law_noughts" "_law_noughts" (defArgs s_q11) (defBody s_q11) (defScope s_q11) .none kV_q11 dc_q11 pm_q11 an_q11 cd_q11 ct_q11),sl_q11⟩) (c_q11:PySem.W.codeIn K cd_q11 "_law_noughts" = true) (k_q11:PySem.W.keepIn K (.ref a_q11)=true)
  (e_q7:PySem.W.nsIn K mainGlobals "_law_is_shut" = some (some (.ref a_q7))) (l_q7:K.lookup a_q7=some ⟨oc_q7,od_q7,.func (PySem.W.fnOf "_law_is_shut" "_law_is_shut" (defArgs s_q7) (defBody s_q7) (defScope s_q7) .none kV_q7 dc_q7 pm_q7 an_q7 cd_q7 ct_q7),sl_q7⟩) (c_q7:PySem.W.codeIn K cd_q7 "_law_is_shut" = true) (k_q7:PySem.W.keepIn K (.ref a_q7)=true)
  (e_q1:PySem.W.nsIn K mainGlobals "_law_changed" = some (some (.ref a_q1))) (l_q1:K.lookup a_q1=some ⟨oc_q1,od_q1,.func (PySem.W.fnOf "_law_changed" "_law_changed" (defArgs s_q1) (defBody s_q1) (defScope s_q1) .none kV_q1 dc_q1 pm_q1 an_q1 cd_q1 ct_q1),sl_q1⟩) (c_q1:PySem.W.codeIn K cd_q1 "_law_changed" = true) (k_q1:PySem.W.keepIn K (.ref a_q1)=true)
  (e_q16:PySem.W.nsIn K mainGlobals "_law_wide_chart" = some (some (.ref a_q16))) (l_q16:K.lookup a_q16=some ⟨oc_q16,od_q16,.func (PySem.W.fnOf "_law_wide_chart" "_law_wide_chart" (defArgs s_q16) (defBody s_q16) (defScope s_q16) .none kV_q16 dc_q16 pm_q16 an_q16 cd_q16 ct_q16),sl_q16⟩) (c_q16:PySem.W.codeIn K cd_q16 "_law_wide_chart" = true) (k_q16:PySem.W.keepIn K (.ref a_q16)=true)
  (e_q27:PySem.W.nsIn K mainGlobals "law" = some (some (.ref a_q27))) (l_q27:K.lookup a_q27=some ⟨oc_q27,od_q27,.func (PySem.W.fnOf "law" "law" (defArgs s_q27) (defBody s_q27) (defScope s_q27) .none kV_q27 dc_q27 pm_q27 an_q27 cd_q27 ct_q27),sl_q27⟩) (c_q27:PySem.W.codeIn K cd_q27 "law" = true) (k_q27:PySem.W.keepIn K (.ref a_q27)=true)
  (z_all:PySem.W.nsIn K mainGlobals "all" = some none)
  (z_bool:PySem.W.nsIn K mainGlobals "bool" = some none)
  (z_dict:PySem.W.nsIn K mainGlobals "dict" = some none)
  (z_enumerate:PySem.W.nsIn K mainGlobals "enumerate" = some none)
  (z_int:PySem.W.nsIn K mainGlobals "int" = some none)
  (z_isinstance:PySem.W.nsIn K mainGlobals "isinstance" = some none)
  (z_len:PySem.W.nsIn K mainGlobals "len" = some none)
  (z_list:PySem.W.nsIn K mainGlobals "list" = some none)
  (z_max:PySem.W.nsIn K mainGlobals "max" = some none)
  (z_min:PySem.W.nsIn K mainGlobals "min" = some none)
  (z_range:PySem.W.nsIn K mainGlobals "range" = some none)
  (z_sorted:PySem.W.nsIn K mainGlobals "sorted" = some none)
  (z_sum:PySem.W.nsIn K mainGlobals "sum" = some none)
  (z_tuple:PySem.W.nsIn K mainGlobals "tuple" = some none)
  {da_MOVE_TABLES:Addr} {t1 t2 t3 t4 t5 t6:Tok} {ep:Nat} (y_MOVE_TABLES:PySem.W.nsIn K mainGlobals "MOVE_TABLES" = some (some (.ref da_MOVE_TABLES))) (d_MOVE_TABLES:K.lookup da_MOVE_TABLES=some { cls:=.type "dict",data:=.dict #[{ hash:=PyData.keyHash w.params "step",key:=.str "step" t1,val:=.int 4 t2 },{ hash:=PyData.keyHash w.params "in",key:=.str "in" t3,val:=.int 5 t4 },{ hash:=PyData.keyHash w.params "over",key:=.str "over" t5,val:=.int 7 t6 }] ep })
  : ∃ fd:FuncData,(∀ (s:Shared) (v:Value),BindsTo s fd ⟨[v],[]⟩ [("_law_script",v)])∧∀ base:Heap,K.In base→base.Ns mainGlobals mg→FnOk l.prog w K mg base CX0 6 fa fd ["_law_script"] (spD K 1 S_q27):=by
 have e:=hfa.symm.trans (PySem.W.mg_of X G e_q27)
 cases e
 have T:Txt l.prog w K mg:=⟨PySem.W.mg_none_of X G z_all,PySem.W.mg_none_of X G z_bool,PySem.W.mg_none_of X G z_dict,PySem.W.mg_none_of X G z_enumerate,PySem.W.mg_none_of X G z_int,PySem.W.mg_none_of X G z_isinstance,PySem.W.mg_none_of X G z_len,PySem.W.mg_none_of X G z_list,PySem.W.mg_none_of X G z_max,PySem.W.mg_none_of X G z_min,PySem.W.mg_none_of X G z_range,PySem.W.mg_none_of X G z_sorted,PySem.W.mg_none_of X G z_sum,PySem.W.mg_none_of X G z_tuple,⟨_,PySem.W.mg_of X G y_MOVE_TABLES,kd_MOVE_TABLES d_MOVE_TABLES⟩⟩
 have F_q22:=fun_mk (st:=s_q22) l_q22 c_q22 k_q22
 have F_q21:=fun_mk (st:=s_q21) l_q21 c_q21 k_q21
 have F_q29:=fun_mk (st:=s_q29) l_q29 c_q29 k_q29
 have F_q20:=fun_mk (st:=s_q20) l_q20 c_q20 k_q20
 have F_q30:=fun_mk (st:=s_q30) l_q30 c_q30 k_q30
 have F_q25:=fun_mk (st:=s_q25) l_q25 c_q25 k_q25
 have F_q19:=fun_mk (st:=s_q19) l_q19 c_q19 k_q19
 have F_q24:=fun_mk (st:=s_q24) l_q24 c_q24 k_q24
 have F_q28:=fun_mk (st:=s_q28) l_q28 c_q28 k_q28
 have F_q17:=fun_mk (st:=s_q17) l_q17 c_q17 k_q17
 have F_q23:=fun_mk (st:=s_q23) l_q23 c_q23 k_q23
 have F_q18:=fun_mk (st:=s_q18) l_q18 c_q18 k_q18
 have F_q26:=fun_mk (st:=s_q26) l_q26 c_q26 k_q26
 have F_q0:=fun_mk (st:=s_q0) l_q0 c_q0 k_q0
 have F_q10:=fun_mk (st:=s_q10) l_q10 c_q10 k_q10
 have F_q4:=fun_mk (st:=s_q4) l_q4 c_q4 k_q4
 have F_q15:=fun_mk (st:=s_q15) l_q15 c_q15 k_q15
 have F_q5:=fun_mk (st:=s_q5) l_q5 c_q5 k_q5
 have F_q2:=fun_mk (st:=s_q2) l_q2 c_q2 k_q2
 have F_q14:=fun_mk (st:=s_q14) l_q14 c_q14 k_q14
 have F_q3:=fun_mk (st:=s_q3) l_q3 c_q3 k_q3
 have F_q6:=fun_mk (st:=s_q6) l_q6 c_q6 k_q6
 have F_q13:=fun_mk (st:=s_q13) l_q13 c_q13 k_q13
 have F_q12:=fun_mk (st:=s_q12) l_q12 c_q12 k_q12
 have F_q9:=fun_mk (st:=s_q9) l_q9 c_q9 k_q9
 have F_q8:=fun_mk (st:=s_q8) l_q8 c_q8 k_q8
 have F_q11:=fun_mk (st:=s_q11) l_q11 c_q11 k_q11
 have F_q7:=fun_mk (st:=s_q7) l_q7 c_q7 k_q7
 have F_q1:=fun_mk (st:=s_q1) l_q1 c_q1 k_q1
 have F_q16:=fun_mk (st:=s_q16) l_q16 c_q16 k_q16
 have F_q27:=fun_mk (st:=s_q27) l_q27 c_q27 k_q27
 have b_q22:Binds K (PySem.W.fnOf "facts_in" "facts_in" (defArgs s_q22) (defBody s_q22) (defScope s_q22) .none kV_q22 dc_q22 pm_q22 an_q22 cd_q22 ct_q22) ["mask"] []:=.all fun us hl=>ln1 hl fun _=>rfl
 have b_q21:Binds K (PySem.W.fnOf "exit_of" "exit_of" (defArgs s_q21) (defBody s_q21) (defScope s_q21) .none kV_q21 dc_q21 pm_q21 an_q21 cd_q21 ct_q21) ["chart","f"] []:=.all fun us hl=>ln2 hl fun _ _=>rfl
 have b_q29:Binds K (PySem.W.fnOf "start_facts" "start_facts" (defArgs s_q29) (defBody s_q29) (defScope s_q29) .none kV_q29 dc_q29 pm_q29 an_q29 cd_q29 ct_q29) ["chart","start"] []:=.all fun us hl=>ln2 hl fun _ _=>rfl
 have b_q20:Binds K (PySem.W.fnOf "edges_from" "edges_from" (defArgs s_q20) (defBody s_q20) (defScope s_q20) .none kV_q20 dc_q20 pm_q20 an_q20 cd_q20 ct_q20) ["chart","f","p"] []:=.all fun us hl=>ln3 hl fun _ _ _=>rfl
 have b_q30:Binds K (PySem.W.fnOf "table_past" "table_past" (defArgs s_q30) (defBody s_q30) (defScope s_q30) .none kV_q30 dc_q30 pm_q30 an_q30 cd_q30 ct_q30) ["edge"] []:=.all fun us hl=>ln1 hl fun _=>rfl
 have b_q25:Binds K (PySem.W.fnOf "is_shut" "is_shut" (defArgs s_q25) (defBody s_q25) (defScope s_q25) .none kV_q25 dc_q25 pm_q25 an_q25 cd_q25 ct_q25) ["chart","start","inside","places"] []:=.all fun us hl=>ln4 hl fun _ _ _ _=>rfl
 have b_q19:Binds K (PySem.W.fnOf "begins_are_told" "begins_are_told" (defArgs s_q19) (defBody s_q19) (defScope s_q19) .none kV_q19 dc_q19 pm_q19 an_q19 cd_q19 ct_q19) ["chart","start","inside","places"] []:=.all fun us hl=>ln4 hl fun _ _ _ _=>rfl
 have b_q24:Binds K (PySem.W.fnOf "inside_is_shut" "inside_is_shut" (defArgs s_q24) (defBody s_q24) (defScope s_q24) .none kV_q24 dc_q24 pm_q24 an_q24 cd_q24 ct_q24) ["chart","inside"] []:=.all fun us hl=>ln2 hl fun _ _=>rfl
 have b_q28:Binds K (PySem.W.fnOf "shorts_are_told" "shorts_are_told" (defArgs s_q28) (defBody s_q28) (defScope s_q28) .none kV_q28 dc_q28 pm_q28 an_q28 cd_q28 ct_q28) ["chart","inside","behind","edge","d","spent"] []:=.all fun us hl=>ln6 hl fun _ _ _ _ _ _=>rfl
 have b_q17:Binds K (PySem.W.fnOf "alongs_are_told" "alongs_are_told" (defArgs s_q17) (defBody s_q17) (defScope s_q17) .none kV_q17 dc_q17 pm_q17 an_q17 cd_q17 ct_q17) ["inside","places"] []:=.all fun us hl=>ln2 hl fun _ _=>rfl
 have b_q23:Binds K (PySem.W.fnOf "ins_are_told" "ins_are_told" (defArgs s_q23) (defBody s_q23) (defScope s_q23) .none kV_q23 dc_q23 pm_q23 an_q23 cd_q23 ct_q23) ["chart","places"] []:=.all fun us hl=>ln2 hl fun _ _=>rfl
 have b_q18:Binds K (PySem.W.fnOf "are_told" "are_told" (defArgs s_q18) (defBody s_q18) (defScope s_q18) .none kV_q18 dc_q18 pm_q18 an_q18 cd_q18 ct_q18) ["costs","behind","mask","cost"] []:=.all fun us hl=>ln4 hl fun _ _ _ _=>rfl
 have b_q26:Binds K (PySem.W.fnOf "is_told" "is_told" (defArgs s_q26) (defBody s_q26) (defScope s_q26) .none kV_q26 dc_q26 pm_q26 an_q26 cd_q26 ct_q26) ["costs","key","cost"] []:=.all fun us hl=>ln3 hl fun _ _ _=>rfl
 have b_q0:Binds K (PySem.W.fnOf "_law_cell" "_law_cell" (defArgs s_q0) (defBody s_q0) (defScope s_q0) .none kV_q0 dc_q0 pm_q0 an_q0 cd_q0 ct_q0) ["_law_script","_law_k"] []:=.all fun us hl=>ln2 hl fun _ _=>rfl
 have b_q10:Binds K (PySem.W.fnOf "_law_next" "_law_next" (defArgs s_q10) (defBody s_q10) (defScope s_q10) .none kV_q10 dc_q10 pm_q10 an_q10 cd_q10 ct_q10) ["_law_state","_law_many"] []:=.all fun us hl=>ln2 hl fun _ _=>rfl
 have b_q4:Binds K (PySem.W.fnOf "_law_cost" "_law_cost" (defArgs s_q4) (defBody s_q4) (defScope s_q4) .none kV_q4 dc_q4 pm_q4 an_q4 cd_q4 ct_q4) ["_law_state"] []:=.all fun us hl=>ln1 hl fun _=>rfl
 have b_q15:Binds K (PySem.W.fnOf "_law_table" "_law_table" (defArgs s_q15) (defBody s_q15) (defScope s_q15) .none kV_q15 dc_q15 pm_q15 an_q15 cd_q15 ct_q15) ["_law_state","_law_many","_law_facts_here"] []:=.all fun us hl=>ln3 hl fun _ _ _=>rfl
 have b_q5:Binds K (PySem.W.fnOf "_law_edge" "_law_edge" (defArgs s_q5) (defBody s_q5) (defScope s_q5) .none kV_q5 dc_q5 pm_q5 an_q5 cd_q5 ct_q5) ["_law_cell_here","_law_heads","_law_f","_law_most"] []:=.all fun us hl=>ln4 hl fun _ _ _ _=>rfl
 have b_q2:Binds K (PySem.W.fnOf "_law_chart" "_law_chart" (defArgs s_q2) (defBody s_q2) (defScope s_q2) .none kV_q2 dc_q2 pm_q2 an_q2 cd_q2 ct_q2) ["_law_script","_law_at","_law_many","_law_wide","_law_deep"] []:=.all fun us hl=>ln5 hl fun _ _ _ _ _=>rfl
 have b_q14:Binds K (PySem.W.fnOf "_law_start" "_law_start" (defArgs s_q14) (defBody s_q14) (defScope s_q14) .none kV_q14 dc_q14 pm_q14 an_q14 cd_q14 ct_q14) ["_law_script","_law_chart_here"] []:=.all fun us hl=>ln2 hl fun _ _=>rfl
 have b_q3:Binds K (PySem.W.fnOf "_law_copy" "_law_copy" (defArgs s_q3) (defBody s_q3) (defScope s_q3) .none kV_q3 dc_q3 pm_q3 an_q3 cd_q3 ct_q3) ["_law_chart_here"] []:=.all fun us hl=>ln1 hl fun _=>rfl
 have b_q6:Binds K (PySem.W.fnOf "_law_facts" "_law_facts" (defArgs s_q6) (defBody s_q6) (defScope s_q6) .none kV_q6 dc_q6 pm_q6 an_q6 cd_q6 ct_q6) ["_law_mask"] []:=.all fun us hl=>ln1 hl fun _=>rfl
 have b_q13:Binds K (PySem.W.fnOf "_law_pairs" "_law_pairs" (defArgs s_q13) (defBody s_q13) (defScope s_q13) .none kV_q13 dc_q13 pm_q13 an_q13 cd_q13 ct_q13) ["_law_chart_here","_law_inside","_law_key"] []:=.all fun us hl=>ln3 hl fun _ _ _=>rfl
 have b_q12:Binds K (PySem.W.fnOf "_law_outer" "_law_outer" (defArgs s_q12) (defBody s_q12) (defScope s_q12) .none kV_q12 dc_q12 pm_q12 an_q12 cd_q12 ct_q12) ["_law_chart_here","_law_inside","_law_places"] []:=.all fun us hl=>ln3 hl fun _ _ _=>rfl
 have b_q9:Binds K (PySem.W.fnOf "_law_lowered" "_law_lowered" (defArgs s_q9) (defBody s_q9) (defScope s_q9) .none kV_q9 dc_q9 pm_q9 an_q9 cd_q9 ct_q9) ["_law_known","_law_pairs_here"] []:=.all fun us hl=>ln2 hl fun _ _=>rfl
 have b_q8:Binds K (PySem.W.fnOf "_law_least" "_law_least" (defArgs s_q8) (defBody s_q8) (defScope s_q8) .none kV_q8 dc_q8 pm_q8 an_q8 cd_q8 ct_q8) ["_law_chart_here","_law_start_here"] []:=.all fun us hl=>ln2 hl fun _ _=>rfl
 have b_q11:Binds K (PySem.W.fnOf "_law_noughts" "_law_noughts" (defArgs s_q11) (defBody s_q11) (defScope s_q11) .none kV_q11 dc_q11 pm_q11 an_q11 cd_q11 ct_q11) ["_law_chart_here"] []:=.all fun us hl=>ln1 hl fun _=>rfl
 have b_q7:Binds K (PySem.W.fnOf "_law_is_shut" "_law_is_shut" (defArgs s_q7) (defBody s_q7) (defScope s_q7) .none kV_q7 dc_q7 pm_q7 an_q7 cd_q7 ct_q7) ["_law_chart_here","_law_start_here","_law_inside","_law_places"] []:=.all fun us hl=>ln4 hl fun _ _ _ _=>rfl
 have b_q1:Binds K (PySem.W.fnOf "_law_changed" "_law_changed" (defArgs s_q1) (defBody s_q1) (defScope s_q1) .none kV_q1 dc_q1 pm_q1 an_q1 cd_q1 ct_q1) ["_law_known","_law_all_keys","_law_state","_law_way"] []:=.all fun us hl=>ln4 hl fun _ _ _ _=>rfl
 have b_q16:Binds K (PySem.W.fnOf "_law_wide_chart" "_law_wide_chart" (defArgs s_q16) (defBody s_q16) (defScope s_q16) .none kV_q16 dc_q16 pm_q16 an_q16 cd_q16 ct_q16) ["_law_script"] []:=.all fun us hl=>ln1 hl fun _=>rfl
 refine ⟨PySem.W.fnOf "law" "law" (defArgs s_q27) (defBody s_q27) (defScope s_q27) .none kV_q27 dc_q27 pm_q27 an_q27 cd_q27 ct_q27,fun s v=>.of_eq rfl,fun base _ _=>?_⟩
 have C_q22:Cal l.prog w K mg base 1 "facts_in" ["mask"] (spD K 1 S_q22):=⟨a_q22,_,ok_q22 F_q22 T ,PySem.W.mg_of X G e_q22,k_q22,b_q22⟩
 have C_q21:Cal l.prog w K mg base 1 "exit_of" ["chart","f"] (spD K 2 S_q21):=⟨a_q21,_,ok_q21 F_q21 T ,PySem.W.mg_of X G e_q21,k_q21,b_q21⟩
 have C_q29:Cal l.prog w K mg base 1 "start_facts" ["chart","start"] (spD K 2 S_q29):=⟨a_q29,_,ok_q29 F_q29 T ,PySem.W.mg_of X G e_q29,k_q29,b_q29⟩
 have C_q20:Cal l.prog w K mg base 1 "edges_from" ["chart","f","p"] (spD K 3 S_q20):=⟨a_q20,_,ok_q20 F_q20 T ,PySem.W.mg_of X G e_q20,k_q20,b_q20⟩
 have C_q30:Cal l.prog w K mg base 1 "table_past" ["edge"] (spD K 1 S_q30):=⟨a_q30,_,ok_q30 F_q30 T ,PySem.W.mg_of X G e_q30,k_q30,b_q30⟩
 have C_q26:Cal l.prog w K mg base 1 "is_told" ["costs","key","cost"] (spD K 3 S_q26):=⟨a_q26,_,ok_q26 F_q26 T ,PySem.W.mg_of X G e_q26,k_q26,b_q26⟩
 have C_q0:Cal l.prog w K mg base 1 "_law_cell" ["_law_script","_law_k"] (spD K 2 S_q0):=⟨a_q0,_,ok_q0 F_q0 T ,PySem.W.mg_of X G e_q0,k_q0,b_q0⟩
 have C_q10:Cal l.prog w K mg base 1 "_law_next" ["_law_state","_law_many"] (spD K 2 S_q10):=⟨a_q10,_,ok_q10 F_q10 T ,PySem.W.mg_of X G e_q10,k_q10,b_q10⟩
 have C_q3:Cal l.prog w K mg base 1 "_law_copy" ["_law_chart_here"] (spD K 1 S_q3):=⟨a_q3,_,ok_q3 F_q3 T ,PySem.W.mg_of X G e_q3,k_q3,b_q3⟩
 have C_q6:Cal l.prog w K mg base 1 "_law_facts" ["_law_mask"] (spD K 1 S_q6):=⟨a_q6,_,ok_q6 F_q6 T ,PySem.W.mg_of X G e_q6,k_q6,b_q6⟩
 have C_q9:Cal l.prog w K mg base 1 "_law_lowered" ["_law_known","_law_pairs_here"] (spD K 2 S_q9):=⟨a_q9,_,ok_q9 F_q9 T ,PySem.W.mg_of X G e_q9,k_q9,b_q9⟩
 have C_q11:Cal l.prog w K mg base 1 "_law_noughts" ["_law_chart_here"] (spD K 1 S_q11):=⟨a_q11,_,ok_q11 F_q11 T ,PySem.W.mg_of X G e_q11,k_q11,b_q11⟩
 have C_q19:Cal l.prog w K mg base 2 "begins_are_told" ["chart","start","inside","places"] (spD K 4 S_q19):=⟨a_q19,_,ok_q19 F_q19 T C_q29,PySem.W.mg_of X G e_q19,k_q19,b_q19⟩
 have C_q17:Cal l.prog w K mg base 2 "alongs_are_told" ["inside","places"] (spD K 2 S_q17):=⟨a_q17,_,ok_q17 F_q17 T C_q26,PySem.W.mg_of X G e_q17,k_q17,b_q17⟩
 have C_q18:Cal l.prog w K mg base 2 "are_told" ["costs","behind","mask","cost"] (spD K 4 S_q18):=⟨a_q18,_,ok_q18 F_q18 T C_q22 C_q26,PySem.W.mg_of X G e_q18,k_q18,b_q18⟩
 have C_q4:Cal l.prog w K mg base 2 "_law_cost" ["_law_state"] (spD K 1 S_q4):=⟨a_q4,_,ok_q4 F_q4 T C_q10,PySem.W.mg_of X G e_q4,k_q4,b_q4⟩
 have C_q15:Cal l.prog w K mg base 2 "_law_table" ["_law_state","_law_many","_law_facts_here"] (spD K 3 S_q15):=⟨a_q15,_,ok_q15 F_q15 T C_q10,PySem.W.mg_of X G e_q15,k_q15,b_q15⟩
 have C_q14:Cal l.prog w K mg base 2 "_law_start" ["_law_script","_law_chart_here"] (spD K 2 S_q14):=⟨a_q14,_,ok_q14 F_q14 T C_q0,PySem.W.mg_of X G e_q14,k_q14,b_q14⟩
 have C_q13:Cal l.prog w K mg base 2 "_law_pairs" ["_law_chart_here","_law_inside","_law_key"] (spD K 3 S_q13):=⟨a_q13,_,ok_q13 F_q13 T C_q6,PySem.W.mg_of X G e_q13,k_q13,b_q13⟩
 have C_q12:Cal l.prog w K mg base 2 "_law_outer" ["_law_chart_here","_law_inside","_law_places"] (spD K 3 S_q12):=⟨a_q12,_,ok_q12 F_q12 T C_q6,PySem.W.mg_of X G e_q12,k_q12,b_q12⟩
 have C_q1:Cal l.prog w K mg base 2 "_law_changed" ["_law_known","_law_all_keys","_law_state","_law_way"] (spD K 4 S_q1):=⟨a_q1,_,ok_q1 F_q1 T C_q10,PySem.W.mg_of X G e_q1,k_q1,b_q1⟩
 have C_q28:Cal l.prog w K mg base 3 "shorts_are_told" ["chart","inside","behind","edge","d","spent"] (spD K 6 S_q28):=⟨a_q28,_,ok_q28 F_q28 T C_q22 C_q21 C_q18,PySem.W.mg_of X G e_q28,k_q28,b_q28⟩
 have C_q23:Cal l.prog w K mg base 3 "ins_are_told" ["chart","places"] (spD K 2 S_q23):=⟨a_q23,_,ok_q23 F_q23 T C_q20 C_q18,PySem.W.mg_of X G e_q23,k_q23,b_q23⟩
 have C_q5:Cal l.prog w K mg base 3 "_law_edge" ["_law_cell_here","_law_heads","_law_f","_law_most"] (spD K 4 S_q5):=⟨a_q5,_,ok_q5 F_q5 T C_q10 C_q4 C_q15,PySem.W.mg_of X G e_q5,k_q5,b_q5⟩
 have C_q8:Cal l.prog w K mg base 3 "_law_least" ["_law_chart_here","_law_start_here"] (spD K 2 S_q8):=⟨a_q8,_,ok_q8 F_q8 T C_q13 C_q9 C_q6 C_q12,PySem.W.mg_of X G e_q8,k_q8,b_q8⟩
 have C_q7:Cal l.prog w K mg base 3 "_law_is_shut" ["_law_chart_here","_law_start_here","_law_inside","_law_places"] (spD K 4 S_q7):=⟨a_q7,_,ok_q7 F_q7 T C_q6 C_q12 C_q13,PySem.W.mg_of X G e_q7,k_q7,b_q7⟩
 have C_q24:Cal l.prog w K mg base 4 "inside_is_shut" ["chart","inside"] (spD K 2 S_q24):=⟨a_q24,_,ok_q24 F_q24 T C_q20 C_q30 C_q18 C_q28,PySem.W.mg_of X G e_q24,k_q24,b_q24⟩
 have C_q2:Cal l.prog w K mg base 4 "_law_chart" ["_law_script","_law_at","_law_many","_law_wide","_law_deep"] (spD K 5 S_q2):=⟨a_q2,_,ok_q2 F_q2 T C_q0 C_q5,PySem.W.mg_of X G e_q2,k_q2,b_q2⟩
 have C_q16:Cal l.prog w K mg base 4 "_law_wide_chart" ["_law_script"] (spD K 1 S_q16):=⟨a_q16,_,ok_q16 F_q16 T C_q0 C_q5,PySem.W.mg_of X G e_q16,k_q16,b_q16⟩
 have C_q25:Cal l.prog w K mg base 5 "is_shut" ["chart","start","inside","places"] (spD K 4 S_q25):=⟨a_q25,_,ok_q25 F_q25 T C_q19 C_q24 C_q17 C_q23,PySem.W.mg_of X G e_q25,k_q25,b_q25⟩
 exact ok_q27 F_q27 T C_q2 C_q0 C_q16 C_q14 C_q11 C_q8 C_q25 C_q10 C_q1 C_q3 C_q7
end K35
open PySem PySem.W PyProof.Rows
set_option maxRecDepth 100000 in
set_option maxHeartbeats 0 in
theorem PySem.Challenge.cw_callmatch_k35_shut_holds : PySem.Challenge.rw_callmatch_k35_shut.Holds := by
  w_on; o_law; k_head; (case hw => w_witness2)
  k_fill
  refine DL.walkD (l := PySem.Challenge.rw_callmatch_k35_shut) (n := 63) (k := 6) (S := K35.S_q27) (x := "_law_script") rfl (by decide) rfl ⟨rfl, by decide, by decide⟩ (fun w h Y => PySem.W.kIn_of Y) ?F K35.law_true
  case F =>
    intro w mg fa h KX G hmg
    refine' K35.all_mk KX G hmg ?e_q22 ?l_q22 ?c_q22 ?k_q22 ?e_q21 ?l_q21 ?c_q21 ?k_q21 ?e_q29 ?l_q29 ?c_q29 ?k_q29 ?e_q20 ?l_q20 ?c_q20 ?k_q20 ?e_q30 ?l_q30 ?c_q30 ?k_q30 ?e_q25 ?l_q25 ?c_q25 ?k_q25 ?e_q19 ?l_q19 ?c_q19 ?k_q19 ?e_q24 ?l_q24 ?c_q24 ?k_q24 ?e_q28 ?l_q28 ?c_q28 ?k_q28 ?e_q17 ?l_q17 ?c_q17 ?k_q17 ?e_q23 ?l_q23 ?c_q23 ?k_q23 ?e_q18 ?l_q18 ?c_q18 ?k_q18 ?e_q26 ?l_q26 ?c_q26 ?k_q26 ?e_q0 ?l_q0 ?c_q0 ?k_q0 ?e_q10 ?l_q10 ?c_q10 ?k_q10 ?e_q4 ?l_q4 ?c_q4 ?k_q4 ?e_q15 ?l_q15 ?c_q15 ?k_q15 ?e_q5 ?l_q5 ?c_q5 ?k_q5 ?e_q2 ?l_q2 ?c_q2 ?k_q2 ?e_q14 ?l_q14 ?c_q14 ?k_q14 ?e_q3 ?l_q3 ?c_q3 ?k_q3 ?e_q6 ?l_q6 ?c_q6 ?k_q6 ?e_q13 ?l_q13 ?c_q13 ?k_q13 ?e_q12 ?l_q12 ?c_q12 ?k_q12 ?e_q9 ?l_q9 ?c_q9 ?k_q9 ?e_q8 ?l_q8 ?c_q8 ?k_q8 ?e_q11 ?l_q11 ?c_q11 ?k_q11 ?e_q7 ?l_q7 ?c_q7 ?k_q7 ?e_q1 ?l_q1 ?c_q1 ?k_q1 ?e_q16 ?l_q16 ?c_q16 ?k_q16 ?e_q27 ?l_q27 ?c_q27 ?k_q27 ?z_all ?z_bool ?z_dict ?z_enumerate ?z_int ?z_isinstance ?z_len ?z_list ?z_max ?z_min ?z_range ?z_sorted ?z_sum ?z_tuple ?y_MOVE_TABLES ?d_MOVE_TABLES
    (case e_q22 => k_is)
    (case l_q22 => k_is)
    (case c_q22 => k_is)
    (case k_q22 => k_is)
    (case e_q21 => k_is)
    (case l_q21 => k_is)
    (case c_q21 => k_is)
    (case k_q21 => k_is)
    (case e_q29 => k_is)
    (case l_q29 => k_is)
    (case c_q29 => k_is)
    (case k_q29 => k_is)
    (case e_q20 => k_is)
    (case l_q20 => k_is)
    (case c_q20 => k_is)
    (case k_q20 => k_is)
    (case e_q30 => k_is)
    (case l_q30 => k_is)
    (case c_q30 => k_is)
    (case k_q30 => k_is)
    (case e_q25 => k_is)
    (case l_q25 => k_is)
    (case c_q25 => k_is)
    (case k_q25 => k_is)
    (case e_q19 => k_is)
    (case l_q19 => k_is)
    (case c_q19 => k_is)
    (case k_q19 => k_is)
    (case e_q24 => k_is)
    (case l_q24 => k_is)
    (case c_q24 => k_is)
    (case k_q24 => k_is)
    (case e_q28 => k_is)
    (case l_q28 => k_is)
    (case c_q28 => k_is)
    (case k_q28 => k_is)
    (case e_q17 => k_is)
    (case l_q17 => k_is)
    (case c_q17 => k_is)
    (case k_q17 => k_is)
    (case e_q23 => k_is)
    (case l_q23 => k_is)
    (case c_q23 => k_is)
    (case k_q23 => k_is)
    (case e_q18 => k_is)
    (case l_q18 => k_is)
    (case c_q18 => k_is)
    (case k_q18 => k_is)
    (case e_q26 => k_is)
    (case l_q26 => k_is)
    (case c_q26 => k_is)
    (case k_q26 => k_is)
    (case e_q0 => k_is)
    (case l_q0 => k_is)
    (case c_q0 => k_is)
    (case k_q0 => k_is)
    (case e_q10 => k_is)
    (case l_q10 => k_is)
    (case c_q10 => k_is)
    (case k_q10 => k_is)
    (case e_q4 => k_is)
    (case l_q4 => k_is)
    (case c_q4 => k_is)
    (case k_q4 => k_is)
    (case e_q15 => k_is)
    (case l_q15 => k_is)
    (case c_q15 => k_is)
    (case k_q15 => k_is)
    (case e_q5 => k_is)
    (case l_q5 => k_is)
    (case c_q5 => k_is)
    (case k_q5 => k_is)
    (case e_q2 => k_is)
    (case l_q2 => k_is)
    (case c_q2 => k_is)
    (case k_q2 => k_is)
    (case e_q14 => k_is)
    (case l_q14 => k_is)
    (case c_q14 => k_is)
    (case k_q14 => k_is)
    (case e_q3 => k_is)
    (case l_q3 => k_is)
    (case c_q3 => k_is)
    (case k_q3 => k_is)
    (case e_q6 => k_is)
    (case l_q6 => k_is)
    (case c_q6 => k_is)
    (case k_q6 => k_is)
    (case e_q13 => k_is)
    (case l_q13 => k_is)
    (case c_q13 => k_is)
    (case k_q13 => k_is)
    (case e_q12 => k_is)
    (case l_q12 => k_is)
    (case c_q12 => k_is)
    (case k_q12 => k_is)
    (case e_q9 => k_is)
    (case l_q9 => k_is)
    (case c_q9 => k_is)
    (case k_q9 => k_is)
    (case e_q8 => k_is)
    (case l_q8 => k_is)
    (case c_q8 => k_is)
    (case k_q8 => k_is)
    (case e_q11 => k_is)
    (case l_q11 => k_is)
    (case c_q11 => k_is)
    (case k_q11 => k_is)
    (case e_q7 => k_is)
    (case l_q7 => k_is)
    (case c_q7 => k_is)
    (case k_q7 => k_is)
    (case e_q1 => k_is)
    (case l_q1 => k_is)
    (case c_q1 => k_is)
    (case k_q1 => k_is)
    (case e_q16 => k_is)
    (case l_q16 => k_is)
    (case c_q16 => k_is)
    (case k_q16 => k_is)
    (case e_q27 => k_is)
    (case l_q27 => k_is)
    (case c_q27 => k_is)
    (case k_q27 => k_is)
    (case z_all => k_is)
    (case z_bool => k_is)
    (case z_dict => k_is)
    (case z_enumerate => k_is)
    (case z_int => k_is)
    (case z_isinstance => k_is)
    (case z_len => k_is)
    (case z_list => k_is)
    (case z_max => k_is)
    (case z_min => k_is)
    (case z_range => k_is)
    (case z_sorted => k_is)
    (case z_sum => k_is)
    (case z_tuple => k_is)
    (case y_MOVE_TABLES => k_is)
    (case d_MOVE_TABLES => k_is)
#print axioms PySem.Challenge.cw_callmatch_k35_shut_holds
