import PyProof.Rows.All
import Wide.All
import OpenK.AllK
import Wide.FinOn
import Lean
import PyProof.EqAt
import PyProof.EqKinds
import PyProof.TupleCall
import PyProof.EqLayable
import PyProof.P3In
import PyProof.Draws
import PyProof.EnumMake
import PyProof.CompFree
import PyProof.CompUse
import KE.KRevIter
import PyProof.DictIter
import PyProof.ZipIter
import PyProof.ListMulRoad
import PyProof.ConsumeWalk
import PyProof.AutoListH
import PyProof.RulesAs
import PyProof.StationsW
import PyProof.ExcClass3
import PyProof.ExcInit
import PyProof.InstStoreFacts
import PyProof.ExcBaseAll.ValueError
import OpenK.KOwn
import PyProof.ExcArgsOwn
import PyProof.ExcAttrAll.ValueError
import KE.KTryMore
import PyProof.Rows.CatchBare
import PySem.Challenge.RW_callmatch_k32_no_paper
set_option Elab.async false
set_option linter.all false
set_option maxRecDepth 100000
set_option genSizeOfSpec false
set_option compiler.extract_closed false
set_option maxHeartbeats 4000000
local macro_rules | `(tactic| trivial) => `(tactic| first | exact .inl rfl | exact .inr (.inl rfl) | exact .inr (.inr rfl) | exact .inr rfl | assumption)
namespace L2
open PySem PySem.Spec PyProof.Rows
noncomputable abbrev Key:=Sum Int Str
noncomputable def keyIs:Key→Value→Bool
 |.inl k,v=>Value.isInt k v
 |.inr x,v=>Value.isStrOf x v
noncomputable def keyH(w:World):Key→Int
 |.inl k=>hashInt k
 |.inr x=>hashStr w x
theorem keyIs_shape:∀ {k:Key} {v:Value},keyIs k v=true→(∃ i t,k=Sum.inl i∧v=Value.int i t)∨(∃ x t,k=Sum.inr x∧v=Value.str x t)
 |.inl i,v,h=>by
  obtain ⟨t,e⟩:=Value.isInt_shape (k:=i) (v:=v) h
  exact .inl ⟨i,t,rfl,e⟩
 |.inr x,v,h=>by
  obtain ⟨t,e⟩:=Value.isStrOf_shape (x:=x) (v:=v) h
  exact .inr ⟨x,t,rfl,e⟩
theorem keyIs_int(i:Int)(t:Tok):keyIs (.inl i) (.int i t)=true:=by simp [keyIs,Value.isInt]
theorem keyIs_str(x:Str)(t:Tok):keyIs (.inr x) (.str x t)=true:=by simp [keyIs,Value.isStrOf]
theorem key_ll(a b:Int):decide ((Sum.inl a:Key)=Sum.inl b)=(a == b):=by
 by_cases e:a=b
 ·subst e;simp
 ·have h:¬ (Sum.inl a:Key)=Sum.inl b:=fun q=>e (Sum.inl.inj q)
  rw [decide_eq_false h]
  exact (beq_eq_false_iff_ne.mpr e).symm
theorem key_rr(a b:Str):decide ((Sum.inr a:Key)=Sum.inr b)=decide (a=b):=by
 by_cases e:a=b
 ·subst e;simp
 ·have h:¬ (Sum.inr a:Key)=Sum.inr b:=fun q=>e (Sum.inr.inj q)
  rw [decide_eq_false h,decide_eq_false e]
theorem key_lr(a:Int)(b:Str):decide ((Sum.inl a:Key)=Sum.inr b)=false:=decide_eq_false (fun q=>nomatch q)
theorem key_rl(a:Str)(b:Int):decide ((Sum.inr a:Key)=Sum.inl b)=false:=decide_eq_false (fun q=>nomatch q)
noncomputable def mixKind(prog:Program)(w:World):PySem.KeyKind prog w Key where
 is:=keyIs
 hash:=keyH w
 inj:=fun v a b ha hb=>by
  rcases keyIs_shape ha with ⟨i,t,rfl,rfl⟩ | ⟨x,t,rfl,rfl⟩
  ·rcases keyIs_shape hb with ⟨j,u,rfl,e⟩ | ⟨y,u,rfl,e⟩
   ·injection e with e1 _;rw [e1]
   ·exact nomatch e
  ·rcases keyIs_shape hb with ⟨j,u,rfl,e⟩ | ⟨y,u,rfl,e⟩
   ·exact nomatch e
   ·injection e with e1 _;rw [e1]
 byValue:=fun k v h=>by
  rcases keyIs_shape h with ⟨i,t,rfl,rfl⟩ | ⟨x,t,rfl,rfl⟩ <;> rfl
 pyHash:=fun hv h=>by
  rcases keyIs_shape hv with ⟨i,t,rfl,rfl⟩ | ⟨x,t,rfl,rfl⟩
  ·exact wpAny_pyHash_int h
  ·exact wpAny_pyHash_str h
 eqBool:=fun hu hv h=>by
  rcases keyIs_shape hu with ⟨i,t,rfl,rfl⟩ | ⟨x,t,rfl,rfl⟩
  ·rcases keyIs_shape hv with ⟨j,u,rfl,rfl⟩ | ⟨y,u,rfl,rfl⟩
   ·rw [key_ll] at h;exact wpAny_eqBool_int h
   ·rw [key_lr] at h;exact SeqAt.EqAt.int_str i t y u _ _ _ _ h
  ·rcases keyIs_shape hv with ⟨j,u,rfl,rfl⟩ | ⟨y,u,rfl,rfl⟩
   ·rw [key_rl] at h;exact SeqAt.EqAt.str_int x t j u _ _ _ _ h
   ·rw [key_rr] at h;exact wpAny_eqBool_str h
 «strs»:=fun k x t v h=>by
  rcases keyIs_shape h with ⟨i,u,rfl,e⟩ | ⟨y,u,rfl,e⟩
  ·exact nomatch e
  ·injection e with e1 _
   subst e1
   cases v <;> rfl
theorem mixKind_int(prog:Program)(w:World)(i:Int)(t:Tok):(mixKind prog w).is (.inl i) (.int i t)=true:=keyIs_int i t
theorem mixKind_str(prog:Program)(w:World)(x:Str)(t:Tok):(mixKind prog w).is (.inr x) (.str x t)=true:=keyIs_str x t
end L2
namespace L2
open PySem PySem.Spec PyProof.Rows
inductive V where
 |non | bl (b:Bool) | int (i:Int) | str (x:Str) | byt (b:Array UInt8) | flt (b:UInt64) | ref (a:Addr) | ty (n:String)
 deriving DecidableEq
noncomputable def RelV:V→Value→Prop
 |.non,u=>u=Value.none
 |.bl b,u=>u=Value.bool b
 |.int i,u=>∃ t,u=Value.int i t
 |.str x,u=>∃ t,u=Value.str x t
 |.byt b,u=>∃ t,u=Value.bytes b t
 |.flt b,u=>∃ t,u=Value.float b t
 |.ref a,u=>u=Value.ref a
 |.ty n,u=>u=Value.type n
noncomputable abbrev Vals:List V→List Value→Prop:=Paired RelV
theorem Vals.length{xs:List V}{us:List Value}(r:Vals xs us):xs.length=us.length:=Paired.length r
theorem Vals.get:∀ {xs:List V} {us:List Value} {i:Nat} {x:V},Vals xs us→xs[i]?=some x→∃ u,us[i]?=some u∧RelV x u
 |_,_,_,_,.nil,e=>by simp at e
 |_,_,0,_,.cons r _,e=>by simp at e;subst e;exact ⟨_,rfl,r⟩
 |_,_,i + 1,x,.cons _ t,e=>by
  obtain ⟨u,h1,h2⟩:=Vals.get (i:=i) (x:=x) t (by simpa using e)
  exact ⟨u,by simpa using h1,h2⟩
theorem Vals.set{x:V}{u:Value}(r:RelV x u):∀ {xs:List V} {us:List Value} (i:Nat),Vals xs us→Vals (xs.set i x) (us.set i u)
 |_,_,_,.nil=>.nil
 |_,_,0,.cons _ t=>.cons r t
 |_,_,i + 1,.cons q t=>.cons q (Vals.set r i t)
theorem Vals.append:∀ {xs ys:List V} {us ws:List Value},Vals xs us→Vals ys ws→Vals (xs ++ ys) (us ++ ws)
 |_,_,_,_,.nil,s=>s
 |_,_,_,_,.cons r t,s=>.cons r (Vals.append t s)
theorem Vals.take:∀ {xs:List V} {us:List Value} (n:Nat),Vals xs us→Vals (xs.take n) (us.take n)
 |_,_,0,_=>.nil
 |_,_,_ + 1,.nil=>.nil
 |_,_,n + 1,.cons r t=>.cons r (Vals.take n t)
theorem Vals.drop:∀ {xs:List V} {us:List Value} (n:Nat),Vals xs us→Vals (xs.drop n) (us.drop n)
 |_,_,0,r=>r
 |_,_,_ + 1,.nil=>.nil
 |_,_,n + 1,.cons _ t=>Vals.drop n t
noncomputable def RelO:Option V→Option Value→Prop
 |some v,some u=>RelV v u
 |none,none=>True
 |_,_=>False
noncomputable def KV{κ:Type}:List (κ×V)→List (κ×Value)→Prop:=Paired fun (p:κ×V) (q:κ×Value)=>p.1=q.1∧RelV p.2 q.2
noncomputable def kV:Key→V
 |.inl i=>.int i
 |.inr x=>.str x
inductive HO where
 |lst (xs:List V)
 |tup (xs:List V)
 |dK (kvs:List (Key×V)) | dT (kvs:List (List Key×V))
 |set (S:Int→Bool) (n:Nat)
 |ins (C dx:Addr) (fs:List (Str×V))
 |own (x:Addr)
 |xd (fs:List (Str×V))
 |met (f x:Addr)
 |rng (lo hi:Int)
 |frz (o:Obj) (u:HO)
 |tbl (ps:Array Value)
 |ext (φ:Heap→Prop)
noncomputable abbrev Hp:=Addr→Option HO
noncomputable def upd(H:Hp)(a:Addr)(o:HO):Hp:=fun b=>if b=a then some o else H b
theorem upd_same{H:Hp}{a:Addr}{o:HO}:upd H a o a=some o:=by unfold upd;rw [if_pos rfl]
theorem upd_ne{H:Hp}{a b:Addr}{o:HO}(h:b ≠ a):upd H a o b=H b:=by unfold upd;rw [if_neg h]
theorem ne_of_none{H:Hp}{a b:Addr}{o:HO}(h:H a=some o)(h':H b=none):a ≠ b:=by
 intro e;subst e;rw [h] at h';cases h'
section
variable (P:Program) (w:World)
noncomputable def ObjOk(H:Hp)(h:Heap)(a:Addr):HO→Prop
 |.lst xs=>xs.length ≤ sizeLine∧∃ (its:List Value) (n:Nat),Vals xs its∧h.get? a=some { cls:=.type "list",data:=.seq its.toArray n }
 |.tup xs=>xs.length ≤ sizeLine∧∃ its:List Value,Vals xs its∧IsTup h a its.toArray
 |.dK kvs=>kvs.length ≤ sizeLine∧(a == sysModules)=false∧∃ vs,KV kvs vs∧h.DictOf (mixKind P w) a vs
 |.dT kvs=>kvs.length ≤ sizeLine∧(a == sysModules)=false∧∃ xs:List (List Key×Addr×Value),
   Paired (fun (p:List Key×V) (q:List Key×Addr×Value)=>p.1=q.1∧H q.2.1=some (.tup (p.1.map kV))∧RelV p.2 q.2.2) kvs xs ∧
   ∃ o es ep,h.get? a=some o∧o.ExactDict∧o.data = .dict es ep∧es.toList=xs.map (entryOfKey (tupleKind (mixKind P w)))∧(xs.map (·.1)).Nodup
 |.set S n=>h.SetOf (intKind P w) a S n
 |.ins C dx fs=>H dx=some (.own a)∧fs.length ≤ 1000∧dx ≠ a∧h.get? a=some (PySem.W.instObj C dx) ∧
   ∃ mA,h.Ns1 dx mA∧(∀ f,RelO (fs.lookup f) (mA f))∧PySem.Within mA (fs.map (·.1))
 |.own _=>∃ o,h.get? a=some o
 |.xd fs=>∃ mA,h.Ns1 a mA∧∀ f,RelO (fs.lookup f) (mA f)
 |.rng lo hi=>∃ t u v,h.get? a=some { cls:=.type "range",data:=.fields #[.int lo t,.int hi u,.int 1 v] }
 |.frz o u=>h.get? a=some o∧ObjOk H h a u
 |.tbl ps=>h.get? a=some { cls:=.none,data:=.fields ps }
 |.met f x=>h.get? a=some (PySem.W.methodObj (.ref f) (.ref x))
 |.ext φ=>φ h∧(∃ o,h.get? a=some o)∧∀ h1 h2:Heap,φ h1→(∀ o,h1.get? a=some o→h2.get? a=some o)→φ h2
noncomputable def HOk(H:Hp)(h:Heap):Prop:=∀ a o,H a=some o→ObjOk P w H h a o
end
section
variable {P:Program} {w:World} {H H':Hp} {h h':Heap} {a:Addr} {o:HO}
theorem ObjOk.lt(x:ObjOk P w H h a o):a < h.objs.size:=by
 cases o with
 |lst xs=>obtain ⟨_,_,_,_,e⟩:=x;exact Heap.lt_size e
 |tup xs=>obtain ⟨_,_,_,p⟩:=x;exact p.lt
 |dK kvs=>obtain ⟨_,_,_,_,o,_,_,e,_⟩:=x;exact Heap.lt_size e
 |dT kvs=>obtain ⟨_,_,_,_,o,_,_,e,_⟩:=x;exact Heap.lt_size e
 |set S n=>obtain ⟨o,_,_,_,e,_⟩:=x;exact Heap.lt_size e
 |ins C dx fs=>obtain ⟨_,_,_,e,_⟩:=x;exact Heap.lt_size e
 |own y=>obtain ⟨_,e⟩:=x;exact Heap.lt_size e
 |xd fs=>obtain ⟨_,⟨_,_,_,e,_⟩,_⟩:=x;exact Heap.lt_size e
 |rng lo hi=>obtain ⟨_,_,_,e⟩:=x;exact Heap.lt_size e
 |frz ob u=>obtain ⟨e,_⟩:=x;exact Heap.lt_size e
 |tbl ps=>exact Heap.lt_size (show h.get? a=some _ from x)
 |met f y=>exact Heap.lt_size (show h.get? a=some _ from x)
 |ext φ=>obtain ⟨_,⟨_,e⟩,_⟩:=x;exact Heap.lt_size e
theorem Paired.mapP{α β:Type}{F G:α→β→Prop}{l₁:List α}{l₂:List β}(h:Paired F l₁ l₂)(f:∀ a b,F a b→G a b):Paired G l₁ l₂:=by
 induction h with
 |nil=>exact .nil
 |cons r _ ih=>exact .cons (f _ _ r) ih
theorem ObjOk.stay(x:ObjOk P w H h a o)(k:∀ b u,(b=a∨H b=some (.own a))→h.get? b=some u→h'.get? b=some u)
  (ho:∀ b,H b=some (.own a)→H' b=some (.own a)) (ht:∀ b xs,H b=some (.tup xs)→H' b=some (.tup xs)):ObjOk P w H' h' a o:=by
 induction o with
 |lst xs=>obtain ⟨z,its,n,r,e⟩:=x;exact ⟨z,its,n,r,k _ _ (.inl rfl) e⟩
 |tup xs=>obtain ⟨z,its,r,ob,e,c⟩:=x;exact ⟨z,its,r,ob,k _ _ (.inl rfl) e,c⟩
 |dK kvs=>obtain ⟨z,y,vs,r,ob,es,ep,e,c⟩:=x;exact ⟨z,y,vs,r,ob,es,ep,k _ _ (.inl rfl) e,c⟩
 |dT kvs =>
  obtain ⟨z,y,xs,r,ob,es,ep,e,c⟩:=x
  exact ⟨z,y,xs,Paired.mapP r fun p q z=>⟨z.1,ht _ _ z.2.1,z.2.2⟩,ob,es,ep,k _ _ (.inl rfl) e,c⟩
 |set S n=>obtain ⟨ob,es,ep,t,e,c⟩:=x;exact ⟨ob,es,ep,t,k _ _ (.inl rfl) e,c⟩
 |ins C dx fs =>
  obtain ⟨d,z,ne,e,mA,⟨od,es,ep,e2,c⟩,r⟩:=x
  exact ⟨ho _ d,z,ne,k _ _ (.inl rfl) e,mA,⟨od,es,ep,k _ _ (.inr d) e2,c⟩,r⟩
 |own y=>obtain ⟨ob,e⟩:=x;exact ⟨ob,k _ _ (.inl rfl) e⟩
 |xd fs=>obtain ⟨mA,⟨od,es,ep,e,c⟩,r⟩:=x;exact ⟨mA,⟨od,es,ep,k _ _ (.inl rfl) e,c⟩,r⟩
 |rng lo hi=>obtain ⟨t,u,v,e⟩:=x;exact ⟨t,u,v,k _ _ (.inl rfl) e⟩
 |frz ob u ih=>obtain ⟨e,q⟩:=x;exact ⟨k _ _ (.inl rfl) e,ih q⟩
 |tbl ps =>
  have e:h.get? a=some { cls:=.none,data:=.fields ps }:=x
  show h'.get? a=some { cls:=.none,data:=.fields ps }
  exact k a _ (.inl rfl) e
 |met f y =>
  have e:h.get? a=some (PySem.W.methodObj (.ref f) (.ref y)):=x
  show h'.get? a=some (PySem.W.methodObj (.ref f) (.ref y))
  exact k a _ (.inl rfl) e
 |ext φ=>obtain ⟨p,⟨o,e⟩,st⟩:=x;exact ⟨st _ _ p fun o q=>k _ _ (.inl rfl) q,⟨o,k _ _ (.inl rfl) e⟩,st⟩
theorem HOk.lt(x:HOk P w H h)(e:H a=some o):a < h.objs.size:=(x a o e).lt
theorem HOk.fresh(x:HOk P w H h)(e:h.objs.size ≤ a):H a=none:=by
 cases q:H a with
 |none=>rfl
 |some u=>exact absurd (Nat.lt_of_lt_of_le (x.lt q) e) (Nat.lt_irrefl _)
theorem HOk.kept(x:HOk P w H h)(k:∀ b u,h.get? b=some u→h'.get? b=some u):HOk P w H h':=fun a o e =>
 (x a o e).stay (fun b u _ q=>k b u q) (fun _ q=>q) fun _ _ q=>q
theorem HOk.laid(x:HOk P w H h)(k:∀ b u,h.get? b=some u→h'.get? b=some u)(hp:h.objs.size ≤ a)(new:ObjOk P w (upd H a o) h' a o):HOk P w (upd H a o) h':=fun b u e=>by
 have hn:=x.fresh hp
 by_cases hb:b=a
 ·subst hb;rw [upd_same] at e;cases e;exact new
 ·rw [upd_ne hb] at e
  exact (x b u e).stay (fun c v _ q=>k c v q) (fun c q=>by rw [upd_ne (ne_of_none q hn)];exact q) fun c xs q=>by rw [upd_ne (ne_of_none q hn)];exact q
end
noncomputable def Rd(H:Hp)(a:Addr)(u:HO):Prop:=H a=some u∨∃ o,H a=some (.frz o u)
theorem Rd.ok{P:Program}{w:World}{H:Hp}{h:Heap}{a:Addr}{u:HO}(r:Rd H a u)(x:HOk P w H h):ObjOk P w H h a u:=by
 rcases r with r | ⟨o,r⟩
 ·exact x a u r
 ·obtain ⟨_,q⟩:=x a _ r
  exact q
noncomputable def Mut:Option HO→Prop
 |some (.lst _)=>True
 |some (.dK _)=>True
 |some (.dT _)=>True
 |some (.set _ _)=>True
 |some (.ins _ _ _)=>True
 |some (.ext _)=>True
 |_=>False
section
variable {P:Program} {w:World} {H:Hp} {h h':Heap} {x e:Addr} {o':HO}
theorem HOk.write(ok:HOk P w H h)(mu:Mut (H x))(he:e=x∨H e=some (.own x))(k:∀ b u,b ≠ e→h.get? b=some u→h'.get? b=some u)(heo:∃ u,h'.get? e=some u)
  (new:ObjOk P w (upd H x o') h' x o'):HOk P w (upd H x o') h':=fun b u q=>by
 have nown:∀ c y,H c=some (.own y)→c ≠ x:=fun c y r z=>by subst z;rw [r] at mu;exact mu
 have ntup:∀ c xs,H c=some (.tup xs)→c ≠ x:=fun c xs r z=>by subst z;rw [r] at mu;exact mu
 by_cases hb:b=x
 ·subst hb;rw [upd_same] at q;cases q;exact new
 ·rw [upd_ne hb] at q
  by_cases hbe:b=e
  ·have q':H b=some (.own x):=by
    rcases he with z | z
    ·exact absurd (hbe.trans z) hb
    ·rw [hbe];exact z
   rw [q] at q';cases q'
   obtain ⟨v,hv⟩:=heo
   exact ⟨v,by rw [hbe];exact hv⟩
  ·refine (ok b u q).stay (fun c v hc r=>k c v ?_ r) (fun c r=>by rw [upd_ne (nown c b r)];exact r) fun c xs r=>by rw [upd_ne (ntup c xs r)];exact r
   rcases hc with rfl | hc
   ·exact hbe
   ·rintro rfl
    rcases he with z | z
    ·exact nown c b hc z
    ·rw [hc] at z;cases z;exact hb rfl
end
structure Un(fs ex:List Addr)(H H':Hp)(h h':Heap):Prop where
 keep:∀ b o,h.get? b=some o→H b=none→b ∉ fs→b ∉ ex→h'.get? b=some o
 slot:∀ b o,h.get? b=some o→H b=none→b ∈ fs→b ∉ ex→∃ sl,h'.get? b=some { o with slots:=sl }
 free:∀ b o,h.get? b=some o→H b=none→b ∉ ex→H' b=none
 there:∀ b o,h.get? b=some o→b ∉ ex→∃ o',h'.get? b=some o'
 tups:∀ b xs,H b=some (.tup xs)→H' b=some (.tup xs)
 frzs:∀ b o u,H b=some (.frz o u)→H' b=some (.frz o u)
 tbls:∀ b ps,H b=some (.tbl ps)→∃ more,H' b=some (.tbl (ps ++ more))
section
variable {fs fs' ex ex':List Addr} {H H1 H2:Hp} {h h1 h2 h':Heap} {a x e:Addr} {o:HO}
theorem Un.any(u:Un fs ex H H1 h h1){b:Addr}{ob:Obj}(q:h.get? b=some ob)(n:H b=none)(hx:b ∉ ex):∃ sl,h1.get? b=some { ob with slots:=sl }:=by
 by_cases hb:b ∈ fs
 ·exact u.slot b ob q n hb hx
 ·exact ⟨ob.slots,u.keep b ob q n hb hx⟩
theorem Un.kept(k:∀ b u,h.get? b=some u→h'.get? b=some u):Un fs ex H H h h' :=
 ⟨fun b ob q _ _ _=>k b ob q,fun b ob q _ _ _=>⟨ob.slots,k b ob q⟩,fun _ _ _ n _=>n,fun b ob q _=>⟨ob,k b ob q⟩,fun _ _ q=>q,fun _ _ _ q=>q,fun _ ps q=>⟨#[],by rw [q];simp⟩⟩
theorem Un.refl:Un fs ex H H h h:=Un.kept fun _ _ q=>q
theorem Un.laid(k:∀ b u,h.get? b=some u→h'.get? b=some u)(hp:h.objs.size ≤ a)(hn:H a=none):Un fs ex H (upd H a o) h h' where
 keep:=fun b u q _ _ _=>k b u q
 slot:=fun b u q _ _ _=>⟨u.slots,k b u q⟩
 free:=fun b u q n _=>by rw [upd_ne (Nat.ne_of_lt (Nat.lt_of_lt_of_le (Heap.lt_size q) hp))];exact n
 there:=fun b u q _=>⟨u,k b u q⟩
 tups:=fun b xs q=>by rw [upd_ne (ne_of_none q hn)];exact q
 frzs:=fun b u xs q=>by rw [upd_ne (ne_of_none q hn)];exact q
 tbls:=fun b ps q=>⟨#[],by rw [upd_ne (ne_of_none q hn),q];simp⟩
theorem Un.write(mu:Mut (H x))(he:e=x∨H e=some (.own x))(k:∀ b u,b ≠ e→h.get? b=some u→h'.get? b=some u)(heo:∃ u,h'.get? e=some u):Un fs ex H (upd H x o) h h':=by
 have hx:∀ b,H b=none→b ≠ x:=fun b n z=>by subst z;rw [n] at mu;exact mu
 have hb:∀ b,H b=none→b ≠ e:=fun b n z=>by
  subst z
  rcases he with r | r
  ·exact hx b n r
  ·rw [n] at r;cases r
 have hm:∀ b u,H b=some u→¬ Mut (some u)→b ≠ x:=fun b u q nm z=>by subst z;rw [q] at mu;exact nm mu
 refine ⟨fun b u q n _ _=>k b u (hb b n) q,fun b u q n _ _=>⟨u.slots,k b u (hb b n) q⟩,fun b u q n _=>by rw [upd_ne (hx b n)];exact n,fun b u q _=>?_,
  fun b xs q=>by rw [upd_ne (hm b _ q fun z=>z)];exact q,fun b u xs q=>by rw [upd_ne (hm b _ q fun z=>z)];exact q,fun b ps q=>⟨#[],by rw [upd_ne (hm b _ q fun z=>z),q];simp⟩⟩
 by_cases hbe:b=e
 ·subst hbe;exact heo
 ·exact ⟨u,k b u hbe q⟩
end
noncomputable def trk(h:Heap)(H:Hp):List Addr:=(List.range h.objs.size).filter fun a=>(H a).isSome
noncomputable def hidT(h:Heap)(H:Hp):Heap:=PySem.W.hideAll h (trk h H)
theorem hidT_size(h:Heap)(H:Hp):(hidT h H).objs.size=h.objs.size:=PySem.W.hideAll_size _ _
theorem hidT_get{h:Heap}{H:Hp}{b:Addr}{o:Obj}(e:h.get? b=some o)(n:H b=none):(hidT h H).get? b=some o :=
 PySem.W.hideAll_get _ e fun hm=>by
  have q:(H b).isSome=true:=(List.mem_filter.mp hm).2
  rw [n] at q;simp at q
theorem of_hidT{h:Heap}{H:Hp}{b:Addr}{o:Obj}(e:(hidT h H).get? b=some o):h.get? b=some o∧H b=none:=by
 have e':h.get? b=some o:=PySem.W.of_hideAll (trk h H) e
 refine ⟨e',?_⟩
 cases q:H b with
 |none=>rfl
 |some x =>
  have hm:b ∈ trk h H:=List.mem_filter.mpr ⟨List.mem_range.mpr (Heap.lt_size e'),by simp [q]⟩
  have z:(hidT h H).get? b=none:=PySem.W.hideAll_none (trk h H) hm
  rw [z] at e;cases e
end L2
namespace L2
open PySem PySem.Spec PyProof.Rows
structure Mod(K:PySem.W.Frag)(mg:Str→Option Value)(base:Heap):Prop where
 kin:K.In base
 glob:base.Ns mainGlobals mg
 blt:∃ mb,base.Ns builtinsNs mb∧∀ x:Str,x ≠ "__name__"→mb x=bootBuiltins x
 nolimit:base.NoLimit
set_option genInjectivity false in
structure Cx where
 prog:Program
 w:World
 K:PySem.W.Frag
 mg:Str→Option Value
 base:Heap
 A:Around
 N:List Str
 s₀:Shared
 H₀:Hp
 env:Env
 outer:List Env
 stack:List Env
 ex:List Addr
 fn:Str→Bool
 calm:Bool
 pn:List (Addr×Obj)
 xe:Value→Shared→Prop
 ex9:Value→Option Addr→Hp→Prop:=fun _ _ _=>False
noncomputable def frs(l:List Env):List Addr:=l.filterMap (·.frame)
noncomputable abbrev Cx.fs(X:Cx):List Addr:=frs X.outer
noncomputable def Vis(sc:Scope)(x:Str):Prop:=sc.names.lookup x=some .local∨sc.names.lookup x=some .cell∨sc.names.lookup x=some .free
noncomputable def Loc(sc:Scope)(x:Str):Prop:=sc.names.lookup x=some .local∨sc.names.lookup x=some .cell
noncomputable def Look(env:Env)(h:Heap)(m:Str→Option Value)(x:Str)(u:Value):Prop :=
 (env.kindOf x=some .local∧m x=some u)∨((env.kindOf x=some .cell∨env.kindOf x=some .free)∧∃ c,env.cells.lookup x=some c∧h.IsCell c (some u))
structure Cx.Ok(X:Cx):Prop where
 mod:Mod X.K X.mg X.base
 kind:X.env.scope.kind = .function
 glob:X.env.globals=mainGlobals
 blt:X.env.builtins=builtinsNs
 above:X.s₀.heap.objs.size ≤ X.env.locals
 inj:∀ x y c,X.env.cells.lookup x=some c→X.env.cells.lookup y=some c→x=y
 has:∀ x,(X.env.kindOf x=some .cell∨X.env.kindOf x=some .free)→∃ c,X.env.cells.lookup x=some c
 cab:∀ x c,X.fn x=true→X.env.cells.lookup x=some c→X.s₀.heap.objs.size ≤ c
 hd:X.calm=true→X.A.handled=none
 frames:X.A.frames=some X.stack
 stk:X.stack=X.outer∨(X.stack=X.env :: X.outer∧X.env.frame=some X.env.locals)
 exf:∀ b ∈ X.ex,b ≠ X.env.locals∧∀ x c,X.env.cells.lookup x=some c→c ≠ b
 bs:∀ b o,X.base.get? b=some o→X.s₀.heap.get? b=some o∧X.H₀ b=none
 bsz:X.base.objs.size ≤ X.s₀.heap.objs.size
 noex:∀ b o,X.base.get? b=some o→b ∉ X.ex
 exfs:∀ b ∈ X.ex,b ∉ X.fs
 funs:X.s₀.heap.FunFrames X.base X.outer
 frf:∀ b ∈ X.fs,X.H₀ b=none
structure Inv(X:Cx)(pins:List (Addr×Obj))(σ:List (Option V))(H:Hp)(s:Shared):Prop where
 ok:X.Ok
 os:s.os=X.s₀.os
 bare:AllBare s.gens
 base:Un X.fs X.ex X.H₀ H X.s₀.heap s.heap
 loc:∃ m,s.heap.Ns X.env.locals m∧∀ (i:Nat) (x:Str) (v:V),X.N[i]?=some x→σ[i]?=some (some v)→Vis X.env.scope x→∃ u,RelV v u∧Look X.env s.heap m x u
 cell:∀ x c,X.env.cells.lookup x=some c→∃ v,s.heap.IsCell c v
 free:H X.env.locals=none
 freeC:∀ x c,X.env.cells.lookup x=some c→H c=none
 pin:∀ p ∈ X.pn ++ pins,s.heap.get? p.1=some p.2∧H p.1=none∧p.1 ≠ X.env.locals∧p.1 ∉ X.fs∧∀ v,p.2.data ≠ .cell v
 hok:HOk X.prog X.w H s.heap
 len:σ.length=X.N.length
section
variable {X:Cx} {pins:List (Addr×Obj)} {σ:List (Option V)} {H H':Hp} {s:Shared} {h':Heap}
theorem Cx.Ok.nofr(ok:X.Ok){b:Addr}{o:Obj}(e:X.base.get? b=some o):b ∉ X.fs:=fun hb=>by
 have:=(ok.funs.mem hb).1
 rw [e] at this;cases this
theorem Inv.bs(I:Inv X pins σ H s):∀ b o,X.base.get? b=some o→s.heap.get? b=some o∧H b=none:=fun b o e =>
 ⟨I.base.keep b o (I.ok.bs b o e).1 (I.ok.bs b o e).2 (I.ok.nofr e) (I.ok.noex b o e),I.base.free b o (I.ok.bs b o e).1 (I.ok.bs b o e).2 (I.ok.noex b o e)⟩
theorem Inv.bk(I:Inv X pins σ H s):∀ b o,X.base.get? b=some o→s.heap.get? b=some o:=fun b o e=>(I.bs b o e).1
theorem Inv.mod(I:Inv X pins σ H s):Mod X.K X.mg X.base:=I.ok.mod
theorem Inv.kIn(I:Inv X pins σ H s):X.K.In s.heap:=I.ok.mod.kin.keeps I.bk
theorem Inv.lt(I:Inv X pins σ H s):X.env.locals < s.heap.objs.size:=let ⟨_,hn,_⟩:=I.loc;hn.lt
theorem Inv.sz(I:Inv X pins σ H s):X.s₀.heap.objs.size ≤ s.heap.objs.size:=Nat.le_trans I.ok.above (Nat.le_of_lt I.lt)
theorem Inv.nofs(I:Inv X pins σ H s){a:Addr}(h:s.heap.objs.size ≤ a):a ∉ X.fs:=fun hb=>by
 obtain ⟨_,o,ho,_⟩:=I.ok.funs.mem hb
 exact absurd (Nat.lt_of_lt_of_le (Heap.lt_size ho) (Nat.le_trans I.sz h)) (Nat.lt_irrefl _)
theorem Inv.cne(I:Inv X pins σ H s):∀ x c,X.env.cells.lookup x=some c→c ≠ X.env.locals:=fun x c e z=>by
 obtain ⟨v,o,ho,hd⟩:=I.cell x c e
 obtain ⟨m,⟨o',es,ep,ho',hd',_⟩,_⟩:=I.loc
 rw [z,ho'] at ho;cases ho;rw [hd'] at hd;cases hd
theorem Inv.funs(I:Inv X pins σ H s):s.heap.FunFrames X.base X.outer:=by
 have all:∀ (l:List Env),(∀ b ∈ frs l,b ∈ X.fs)→X.s₀.heap.FunFrames X.base l→s.heap.FunFrames X.base l:=by
  intro l
  induction l with
  |nil=>intro _ _;trivial
  |cons env r ih =>
   intro hs hl
   obtain ⟨hk,⟨L,o,hf,hn,ho,hd⟩,hr⟩:=hl
   have hL:L ∈ X.fs:=hs L (by unfold frs;rw [List.filterMap_cons,hf];exact List.mem_cons_self)
   obtain ⟨sl,e⟩:=I.base.slot L o ho (I.ok.frf L hL) hL fun z=>I.ok.exfs L z hL
   exact ⟨hk,⟨L,_,hf,hn,e,hd⟩,ih (fun b hb=>hs b (by unfold frs;rw [List.filterMap_cons,hf];exact List.mem_cons_of_mem _ hb)) hr⟩
 exact all X.outer (fun _ hb=>hb) I.ok.funs
theorem Inv.stack(I:Inv X pins σ H s):s.heap.FunFrames X.base X.stack:=by
 rcases I.ok.stk with e | ⟨e,hf⟩
 ·rw [e];exact I.funs
 ·rw [e]
  obtain ⟨m,hn,_⟩:=I.loc
  refine .cons (by rw [I.ok.kind];decide) hf hn ?_ I.funs
  exact Heap.get?_none_of_le (Nat.le_trans I.ok.bsz I.ok.above)
theorem Inv.stkSub(I:Inv X pins σ H s):∀ b ∈ frs X.stack,b ∈ X.env.locals :: X.fs:=fun b hb=>by
 rcases I.ok.stk with e | ⟨e,hf⟩
 ·rw [e] at hb;exact List.mem_cons_of_mem _ hb
 ·rw [e] at hb
  unfold frs at hb
  rw [List.filterMap_cons,hf] at hb
  exact hb
theorem Inv.stkFree(I:Inv X pins σ H s):∀ b ∈ frs X.stack,H b=none:=fun b hb=>by
 rcases List.mem_cons.mp (I.stkSub b hb) with e | hb
 ·rw [e];exact I.free
 ·obtain ⟨_,o,ho,_⟩:=I.ok.funs.mem hb
  exact I.base.free b o ho (I.ok.frf b hb) fun z=>I.ok.exfs b z hb
theorem Inv.step{g':Array GenState}{t':Nat}{d':Drawn}{ch:List Addr}(I:Inv X pins σ H s)
  (hch:∀ b ∈ ch,(b ∈ X.ex∨X.s₀.heap.objs.size ≤ b)∧b ≠ X.env.locals∧(∀ x c,X.env.cells.lookup x=some c→c ≠ b)∧∀ p ∈ X.pn ++ pins,p.1 ≠ b)
  (keep:∀ b o,b ≠ X.env.locals→b ∉ X.fs→b ∉ ch→s.heap.get? b=some o→H b=none→h'.get? b=some o)
  (slot:∀ b o,b ≠ X.env.locals→b ∈ X.fs→b ∉ ch→s.heap.get? b=some o→H b=none→∃ sl,h'.get? b=some { o with slots:=sl }) (free:∀ b o,b ∉ ch→s.heap.get? b=some o→H b=none→H' b=none)
  (there:∀ b o,b ∉ ch→s.heap.get? b=some o→∃ o',h'.get? b=some o')
  (tups:∀ b xs,H b=some (.tup xs)→H' b=some (.tup xs)) (frzs:∀ b o u,H b=some (.frz o u)→H' b=some (.frz o u)) (tbls:∀ b ps,H b=some (.tbl ps)→∃ more,H' b=some (.tbl (ps ++ more)))
  (ns:∀ m,s.heap.Ns X.env.locals m→h'.Ns X.env.locals m) (hok:HOk X.prog X.w H' h') (hg:AllBare g') :
  Inv X pins σ H' { s with heap:=h',gens:=g',drawn:=d',toks:=t' }:=by
 have neL:∀ b o,X.s₀.heap.get? b=some o→b ≠ X.env.locals:=fun b o e=>Nat.ne_of_lt (Nat.lt_of_lt_of_le (Heap.lt_size e) I.ok.above)
 have neC:∀ b o,X.s₀.heap.get? b=some o→b ∉ X.ex→b ∉ ch:=fun b o e hx hb=>by
  rcases (hch b hb).1 with z | z
  ·exact hx z
  ·exact absurd (Nat.lt_of_lt_of_le (Heap.lt_size e) z) (Nat.lt_irrefl _)
 have cellK:∀ x c,X.env.cells.lookup x=some c→∀ v,s.heap.IsCell c v→h'.IsCell c v:=fun x c e v zz0=>by
  obtain ⟨o,ho,hd⟩:=zz0
  have nch:c ∉ ch:=fun z=>(hch c z).2.2.1 x c e rfl
  by_cases hc:c ∈ X.fs
  ·obtain ⟨sl,q⟩:=slot c o (I.cne x c e) hc nch ho (I.freeC x c e)
   exact ⟨_,q,hd⟩
  ·exact ⟨o,keep c o (I.cne x c e) hc nch ho (I.freeC x c e),hd⟩
 refine ⟨I.ok,I.os,hg,⟨fun b o e n hb hx=>?_,fun b o e n hb hx=>?_,fun b o e n hx=>?_,fun b o e hx=>?_,fun b xs e=>tups b xs (I.base.tups b xs e),fun b o xs e=>frzs b o xs (I.base.frzs b o xs e),fun b ps e=>?_⟩,?_,fun x c e=>?_,?_,fun x c e=>?_,fun p hp=>?_,hok,I.len⟩
 ·exact keep b o (neL b o e) hb (neC b o e hx) (I.base.keep b o e n hb hx) (I.base.free b o e n hx)
 ·obtain ⟨sl,e1⟩:=I.base.slot b o e n hb hx
  obtain ⟨sl',e2⟩:=slot b _ (neL b o e) hb (neC b o e hx) e1 (I.base.free b o e n hx)
  exact ⟨sl',e2⟩
 ·obtain ⟨o',e1⟩:=I.base.there b o e hx
  exact free b o' (neC b o e hx) e1 (I.base.free b o e n hx)
 ·obtain ⟨o',e1⟩:=I.base.there b o e hx
  exact there b o' (neC b o e hx) e1
 ·obtain ⟨m1,e1⟩:=I.base.tbls b ps e
  obtain ⟨m2,e2⟩:=tbls b _ e1
  exact ⟨m1 ++ m2,by rw [e2,Array.append_assoc]⟩
 ·obtain ⟨m,hn,hl⟩:=I.loc
  refine ⟨m,ns m hn,fun i x v e1 e2 e3=>?_⟩
  obtain ⟨u,r,l⟩:=hl i x v e1 e2 e3
  refine ⟨u,r,?_⟩
  rcases l with l | ⟨k,c,e,z⟩
  ·exact .inl l
  ·exact .inr ⟨k,c,e,cellK x c e _ z⟩
 ·obtain ⟨v,z⟩:=I.cell x c e
  exact ⟨v,cellK x c e v z⟩
 ·obtain ⟨m,⟨o,_,_,ho,_⟩,_⟩:=I.loc
  exact free _ o (fun z=>(hch _ z).2.1 rfl) ho I.free
 ·obtain ⟨v,o,ho,hd⟩:=I.cell x c e
  exact free c o (fun z=>(hch c z).2.2.1 x c e rfl) ho (I.freeC x c e)
 ·obtain ⟨e,n,ne,nf,d⟩:=I.pin p hp
  have nch:p.1 ∉ ch:=fun z=>(hch p.1 z).2.2.2 p hp rfl
  exact ⟨keep p.1 p.2 ne nf nch e n,free p.1 p.2 nch e n,ne,nf,d⟩
theorem Inv.un{t':Nat}(I:Inv X pins σ H s)(u:Un X.fs [] H H' s.heap h')(hok:HOk X.prog X.w H' h'):Inv X pins σ H' { s with heap:=h',toks:=t' }:=by
 obtain ⟨m,⟨o,es,ep,ho,r⟩,_⟩:=id I.loc
 obtain ⟨sl,hL⟩:=u.any ho I.free (by simp)
 exact I.step (g':=s.gens) (d':=s.drawn) (ch:=[]) (fun _ z=>nomatch z) (fun b o _ hb _ e n=>u.keep b o e n hb (by simp)) (fun b o _ hb _ e n=>u.slot b o e n hb (by simp)) (fun b o _ e n=>u.free b o e n (by simp)) (fun b o _ e=>u.there b o e (by simp)) u.tups u.frzs u.tbls (fun m' hm=>by
  obtain ⟨o',es',ep',ho',r'⟩:=hm
  rw [ho] at ho';cases ho'
  exact ⟨_,es',ep',hL,r'⟩) hok I.bare
theorem Inv.call{g':Array GenState}{t':Nat}{d':Drawn}{ch:List Addr}(I:Inv X pins σ H s)(u:Un (frs X.stack) ch H H' s.heap h')(hok:HOk X.prog X.w H' h')(hg:AllBare g')
  (hch:∀ b ∈ ch,(b ∈ X.ex∨X.s₀.heap.objs.size ≤ b)∧b ≠ X.env.locals∧(∀ x c,X.env.cells.lookup x=some c→c ≠ b)∧∀ p ∈ X.pn ++ pins,p.1 ≠ b) :
  Inv X pins σ H' { s with heap:=h',gens:=g',drawn:=d',toks:=t' }:=by
 obtain ⟨m,⟨o,es,ep,ho,r⟩,_⟩:=id I.loc
 obtain ⟨sl,hL⟩:=u.any ho I.free fun z=>(hch _ z).2.1 rfl
 exact I.step (ch:=ch) hch (fun b o hL hb hc e n=>u.keep b o e n (fun z=>(List.mem_cons.mp (I.stkSub b z)).elim hL hb) hc) (fun b o _ _ hc e n=>u.any e n hc) (fun b o hc e n=>u.free b o e n hc) (fun b o hc e=>u.there b o e hc) u.tups u.frzs u.tbls (fun m' hm=>by
  obtain ⟨o',es',ep',ho',r'⟩:=hm
  rw [ho] at ho';cases ho'
  exact ⟨_,es',ep',hL,r'⟩) hok hg
theorem Inv.turned{t':Nat}{it:Addr}(I:Inv X pins σ H s)(k:∀ b o,b ≠ it→s.heap.get? b=some o→h'.get? b=some o)(hn:H it=none)(hL:it ≠ X.env.locals)
  (h1:it ∈ X.ex∨X.s₀.heap.objs.size ≤ it) (h2:∀ x c,X.env.cells.lookup x=some c→c ≠ it) (h3:∀ p ∈ X.pn ++ pins,p.1 ≠ it):Inv X pins σ H { s with heap:=h',toks:=t' }:=by
 have nit:∀ b u,H b=some u→b ≠ it:=fun b u e z=>by rw [z,hn] at e;cases e
 refine I.step (g':=s.gens) (d':=s.drawn) (ch:=[it]) (fun b hb=>?_) (fun b o _ _ hc e _=>k b o (fun z=>hc (by simp [z])) e) (fun b o _ _ hc e _=>⟨o.slots,k b o (fun z=>hc (by simp [z])) e⟩) (fun _ _ _ _ n=>n)
  (fun b o hc e=>⟨o,k b o (fun z=>hc (by simp [z])) e⟩) (fun _ _ e=>e) (fun _ _ _ e=>e) (fun b ps e=>⟨#[],by rw [e];simp⟩) (fun m hm=>?_) (fun b u e=>?_) I.bare
 ·have e:b=it:=by simpa using hb
  subst e
  exact ⟨h1,hL,h2,h3⟩
 ·obtain ⟨o,es,ep,ho,r⟩:=hm
  exact ⟨o,es,ep,k _ o (Ne.symm hL) ho,r⟩
 ·refine (I.hok b u e).stay (fun c v hc q=>k c v ?_ q) (fun _ q=>q) fun _ _ q=>q
  rcases hc with z | z
  ·rw [z];exact nit b u e
  ·exact nit c _ z
theorem Inv.tok(I:Inv X pins σ H s)(t:Nat):Inv X pins σ H { s with toks:=t }:=I.un (h':=s.heap) (t':=t) Un.refl I.hok
theorem Inv.kept{t':Nat}(I:Inv X pins σ H s)(k:∀ b u,s.heap.get? b=some u→h'.get? b=some u):Inv X pins σ H { s with heap:=h',toks:=t' }:=I.un (Un.kept k) (I.hok.kept k)
theorem Inv.laid{a:Addr}{o:HO}{t':Nat}(I:Inv X pins σ H s)(k:∀ b u,s.heap.get? b=some u→h'.get? b=some u)(hp:s.heap.objs.size ≤ a)(new:ObjOk X.prog X.w (upd H a o) h' a o) :
  Inv X pins σ (upd H a o) { s with heap:=h',toks:=t' }:=I.un (Un.laid k hp (I.hok.fresh hp)) (I.hok.laid k hp new)
theorem Inv.write{x e:Addr}{o:HO}{t':Nat}(I:Inv X pins σ H s)(mu:Mut (H x))(he:e=x∨H e=some (.own x))(k:∀ b u,b ≠ e→s.heap.get? b=some u→h'.get? b=some u)(heo:∃ u,h'.get? e=some u)
  (new:ObjOk X.prog X.w (upd H x o) h' x o):Inv X pins σ (upd H x o) { s with heap:=h',toks:=t' }:=I.un (Un.write mu he k heo) (I.hok.write mu he k heo new)
theorem Inv.pins_of{pins':List (Addr×Obj)}(I:Inv X pins σ H s)(h:∀ p ∈ pins',s.heap.get? p.1=some p.2∧H p.1=none∧p.1 ≠ X.env.locals∧p.1 ∉ X.fs∧∀ v,p.2.data ≠ .cell v):Inv X pins' σ H s :=
 ⟨I.ok,I.os,I.bare,I.base,I.loc,I.cell,I.free,I.freeC,fun p hp=>(List.mem_append.mp hp).elim (fun z=>I.pin p (List.mem_append_left _ z)) (h p),I.hok,I.len⟩
theorem nodup_ix{N:List Str}(hN:N.Nodup){i j:Nat}{x:Str}(a:N[i]?=some x)(b:N[j]?=some x):i=j:=by
 obtain ⟨h1,e1⟩:=List.getElem?_eq_some_iff.mp a
 obtain ⟨h2,e2⟩:=List.getElem?_eq_some_iff.mp b
 exact (List.getElem_inj hN).mp (e1.trans e2.symm)
theorem store_ok2{M:Model}{A:Around}{E:Value→Shared→Prop}{i:Nat}{x:Str}{v:V}{u:Value}{Q:Unit→Shared→Prop}(I:Inv X pins σ H s)(hN:X.N.Nodup)(hi:X.N[i]?=some x)(hx:Loc X.env.scope x)(r:RelV v u)
  (h:∀ s',Inv X pins (σ.set i (some v)) H s'→(∃ a,Heap.SameBut a s.heap s'.heap∧(a=X.env.locals∨X.env.cells.lookup x=some a))→Q () s') (hf:X.fn x=true∨X.env.scope.names.lookup x=some .local:=by trivial):wpAny M A (storeName X.env x u) Q E s:=by
 obtain ⟨m,hn,hl⟩:=id I.loc
 have hcls:(X.env.scope.kind == .class || (X.env.scope.kind == .module && X.env.locals != X.env.globals))=false:=by rw [I.ok.kind];rfl
 have hiσ:i < σ.length:=by rw [I.len];exact (List.getElem?_eq_some_iff.mp hi).1
 have cne:=I.cne
 have tracked:∀ {a:Addr} {h':Heap},(∃ o,s.heap.get? a=some o∧H a=none)→Heap.SameBut a s.heap h'→HOk X.prog X.w H h':=fun {a h'} ha hs b ob e=>by
  obtain ⟨_,_,hfree⟩:=ha
  refine (I.hok b ob e).stay (fun c w' hc q=>(hs.2 c ?_).trans q) (fun _ q=>q) fun _ _ q=>q
  rintro rfl
  rcases hc with rfl | hc
  ·rw [hfree] at e;cases e
  ·rw [hfree] at hc;cases hc
 rcases hx with hk | hk
 ·refine wpAny_storeName_local hk hn (fun h' hn' hs=>?_) hcls
  obtain ⟨oL,_,_,hoL,_⟩:=id hn
  refine h _ ⟨I.ok,I.os,I.bare,⟨fun b o e n hb hx=>?_,fun b o e n hb hx=>?_,I.base.free,fun b o e hx=>?_,I.base.tups,I.base.frzs,I.base.tbls⟩,⟨_,hn',fun j y v' e1 e2 e3=>?_⟩,fun y c e=>?_,I.free,I.freeC,fun p hp=>?_,tracked ⟨oL,hoL,I.free⟩ hs,by simpa using I.len⟩ ⟨_,hs,.inl rfl⟩
  ·exact (hs.2 b (Nat.ne_of_lt (Nat.lt_of_lt_of_le (Heap.lt_size e) I.ok.above))).trans (I.base.keep b o e n hb hx)
  ·obtain ⟨sl,e1⟩:=I.base.slot b o e n hb hx
   exact ⟨sl,(hs.2 b (Nat.ne_of_lt (Nat.lt_of_lt_of_le (Heap.lt_size e) I.ok.above))).trans e1⟩
  ·obtain ⟨o',e1⟩:=I.base.there b o e hx
   exact ⟨o',(hs.2 b (Nat.ne_of_lt (Nat.lt_of_lt_of_le (Heap.lt_size e) I.ok.above))).trans e1⟩
  ·by_cases hj:j=i
   ·subst hj
    rw [hi] at e1;cases e1
    rw [List.getElem?_set_self hiσ] at e2
    cases e2
    exact ⟨u,r,.inl ⟨hk,by simp⟩⟩
   ·rw [List.getElem?_set_ne (Ne.symm hj)] at e2
    obtain ⟨u',r',q⟩:=hl j y v' e1 e2 e3
    refine ⟨u',r',?_⟩
    rcases q with ⟨k,e⟩ | ⟨k,c,e,z⟩
    ·refine .inl ⟨k,?_⟩
     have:y ≠ x:=fun e=>hj (nodup_ix hN e1 (e ▸ hi))
     simp [this,e]
    ·exact .inr ⟨k,c,e,z.sameBut hs (cne y c e)⟩
  ·obtain ⟨w',z⟩:=I.cell y c e
   exact ⟨w',z.sameBut hs (cne y c e)⟩
  ·obtain ⟨e,n,ne,nf,d⟩:=I.pin p hp
   exact ⟨(hs.2 p.1 ne).trans e,n,ne,nf,d⟩
 ·have hfn:X.fn x=true:=by
   rcases hf with z | z
   ·exact z
   ·rw [z] at hk;cases hk
  obtain ⟨c,hc⟩:=I.ok.has x (.inl hk)
  obtain ⟨w',z⟩:=I.cell x c hc
  refine wpAny_storeName_cell I.ok.kind hk hc z (fun h' hc' hs=>?_)
  obtain ⟨oc,hoc,hocd⟩:=id z
  refine h { s with heap:=h' } ⟨I.ok,I.os,I.bare,⟨fun b o e n hb hx=>?_,fun b o e n hb hx=>?_,I.base.free,fun b o e hx=>?_,I.base.tups,I.base.frzs,I.base.tbls⟩,⟨m,hn.sameBut hs (Ne.symm (cne x c hc)),fun j y v' e1 e2 e3=>?_⟩,fun y c' e=>?_,I.free,I.freeC,fun p hp=>?_,tracked ⟨oc,hoc,I.freeC x c hc⟩ hs,by simpa using I.len⟩ ⟨c,hs,.inr hc⟩
  ·exact (hs.2 b (Nat.ne_of_lt (Nat.lt_of_lt_of_le (Heap.lt_size e) (I.ok.cab x c hfn hc)))).trans (I.base.keep b o e n hb hx)
  ·obtain ⟨sl,e1⟩:=I.base.slot b o e n hb hx
   exact ⟨sl,(hs.2 b (Nat.ne_of_lt (Nat.lt_of_lt_of_le (Heap.lt_size e) (I.ok.cab x c hfn hc)))).trans e1⟩
  ·obtain ⟨o',e1⟩:=I.base.there b o e hx
   exact ⟨o',(hs.2 b (Nat.ne_of_lt (Nat.lt_of_lt_of_le (Heap.lt_size e) (I.ok.cab x c hfn hc)))).trans e1⟩
  ·by_cases hj:j=i
   ·subst hj
    rw [hi] at e1;cases e1
    rw [List.getElem?_set_self hiσ] at e2
    cases e2
    exact ⟨u,r,.inr ⟨.inl hk,c,hc,hc'⟩⟩
   ·rw [List.getElem?_set_ne (Ne.symm hj)] at e2
    obtain ⟨u',r',q⟩:=hl j y v' e1 e2 e3
    refine ⟨u',r',?_⟩
    rcases q with q | ⟨k,c',e,z'⟩
    ·exact .inl q
    ·refine .inr ⟨k,c',e,z'.sameBut hs ?_⟩
     rintro rfl
     exact hj (nodup_ix hN e1 (I.ok.inj _ _ _ e hc ▸ hi))
  ·by_cases hcc:c'=c
   ·subst hcc;exact ⟨_,hc'⟩
   ·obtain ⟨w2,z2⟩:=I.cell y c' e
    exact ⟨w2,z2.sameBut hs hcc⟩
  ·obtain ⟨e,n,ne,nf,d⟩:=I.pin p hp
   refine ⟨(hs.2 p.1 ?_).trans e,n,ne,nf,d⟩
   intro q
   rw [q,hoc] at e
   have q':oc=p.2:=Option.some.inj e
   exact d w' (by rw [← q'];exact hocd)
theorem store_ok{M:Model}{A:Around}{E:Value→Shared→Prop}{i:Nat}{x:Str}{v:V}{u:Value}{Q:Unit→Shared→Prop}(I:Inv X pins σ H s)(hN:X.N.Nodup)(hi:X.N[i]?=some x)(hx:Loc X.env.scope x)(r:RelV v u)
  (h:∀ s',Inv X pins (σ.set i (some v)) H s'→Q () s') (hf:X.fn x=true∨X.env.scope.names.lookup x=some .local:=by trivial):wpAny M A (storeName X.env x u) Q E s :=
 store_ok2 I hN hi hx r (fun s' I' _=>h s' I') hf
theorem Inv.call'{s':Shared}{ch:List Addr}(I:Inv X pins σ H s)(ho:s'.os=s.os)(u:Un (frs X.stack) ch H H' s.heap s'.heap)(hok:HOk X.prog X.w H' s'.heap)(hg:AllBare s'.gens)
  (hch:∀ b ∈ ch,(b ∈ X.ex∨X.s₀.heap.objs.size ≤ b)∧b ≠ X.env.locals∧(∀ x c,X.env.cells.lookup x=some c→c ≠ b)∧∀ p ∈ X.pn ++ pins,p.1 ≠ b):Inv X pins σ H' s':=by
 obtain ⟨h',g',d',t',o'⟩:=s'
 have e:o'=s.os:=ho
 subst e
 exact I.call (g':=g') (t':=t') (d':=d') u hok hg hch
end
noncomputable abbrev XK:=Value→Option Addr→Hp→Prop
noncomputable abbrev St:=List (Option V)
noncomputable abbrev VK:=V→Hp→Prop
noncomputable abbrev TE:=St→Hp→VK→Prop
noncomputable abbrev TT:=St→Hp→(Bool→Hp→Prop)→Prop
noncomputable abbrev TA:=St→Hp→(List V→Hp→Prop)→Prop
structure Ends where
 nx:St→Hp→Prop
 rt:VK
 bk:St→Hp→Prop:=fun _ _=>False
 ct:St→Hp→Prop:=fun _ _=>False
noncomputable abbrev TS:=Ends→St→Hp→Prop
noncomputable def EP(X:Cx)(pins:List (Addr×Obj))(σ:St)(Q:VK)(u:Value)(s':Shared):Prop:=∃ v H',Inv X pins σ H' s'∧RelV v u∧Q v H'
noncomputable def TP(X:Cx)(pins:List (Addr×Obj))(σ:St)(Q:Bool→Hp→Prop)(b:Bool)(s':Shared):Prop:=∃ H',Inv X pins σ H' s'∧Q b H'
noncomputable def AP(X:Cx)(pins:List (Addr×Obj))(σ:St)(Q:List V→Hp→Prop)(us:List Value)(s':Shared):Prop:=∃ vs H',Inv X pins σ H' s'∧Vals vs us∧Q vs H'
noncomputable def SP(X:Cx)(pins:List (Addr×Obj))(D:Ends)(f:Flow)(s':Shared):Prop :=
 match f with
 |.next=>∃ σ' H',Inv X pins σ' H' s'∧D.nx σ' H'
 |.brk=>∃ σ' H',Inv X pins σ' H' s'∧D.bk σ' H'
 |.cont=>∃ σ' H',Inv X pins σ' H' s'∧D.ct σ' H'
 |.ret u=>∃ v σ' H',Inv X pins σ' H' s'∧RelV v u∧D.rt v H'
noncomputable def PE(X:Cx)(e:Expr)(t:TE):Prop :=
 ∀ (pins:List (Addr×Obj)) (s:Shared) (σ:St) (H:Hp) (Q:VK),Inv X pins σ H s→t σ H Q→wpAny (model X.prog X.w) X.A (eval e X.env) (EP X pins σ Q) X.xe s
noncomputable def PT(X:Cx)(e:Expr)(t:TT):Prop :=
 ∀ (pins:List (Addr×Obj)) (s:Shared) (σ:St) (H:Hp) (Q:Bool→Hp→Prop),Inv X pins σ H s→t σ H Q→wpAny (model X.prog X.w) X.A (isTrue e X.env (eval e X.env)) (TP X pins σ Q) X.xe s
noncomputable def PW(X:Cx)(e:Expr)(t:TT):Prop :=
 ∀ (whole:Sem Value) (pins:List (Addr×Obj)) (s:Shared) (σ:St) (H:Hp) (Q:Bool→Hp→Prop),Inv X pins σ H s→t σ H Q→wpAny (model X.prog X.w) X.A (isTrue e X.env whole) (TP X pins σ Q) X.xe s
theorem PW.pt{X:Cx}{e:Expr}{t:TT}(h:PW X e t):PT X e t:=h _
noncomputable def PA(X:Cx)(es:List Expr)(t:TA):Prop :=
 ∀ (pos:Pos) (pins:List (Addr×Obj)) (s:Shared) (σ:St) (H:Hp) (Q:List V→Hp→Prop),Inv X pins σ H s→t σ H Q→wpAny (model X.prog X.w) X.A (spliced (backTo pos (starEach es X.env))) (AP X pins σ Q) X.xe s
noncomputable def PS(X:Cx)(st:Stmt)(t:TS):Prop :=
 ∀ (pins:List (Addr×Obj)) (s:Shared) (σ:St) (H:Hp) (D:Ends),Inv X pins σ H s→t D σ H→wpAny (model X.prog X.w) X.A (exec st X.env) (SP X pins D) X.xe s
noncomputable def PSs(X:Cx)(st:List Stmt)(t:TS):Prop :=
 ∀ (pins:List (Addr×Obj)) (s:Shared) (σ:St) (H:Hp) (D:Ends),Inv X pins σ H s→t D σ H→wpAny (model X.prog X.w) X.A (execs st X.env) (SP X pins D) X.xe s
theorem thn{α:Type}{t:Sem α}{Q Q':α→Shared→Prop}{M:Model}{A:Around}{E:Value→Shared→Prop}{s:Shared}(h:wpAny M A t Q E s)(hQ:∀ a s,Q a s→Q' a s):wpAny M A t Q' E s:=wpAny_mono h hQ fun _ _ x=>x
end L2
namespace L2
open PySem PySem.Spec PyProof.Rows
section
variable {X:Cx}
noncomputable def tVar(i:Nat):TE:=fun σ H Q=>∃ v,σ[i]?=some (some v)∧Q v H
noncomputable def tC(v:V):TE:=fun _ H Q=>Q v H
theorem pe_var{i:Nat}{x:Str}{pos:Pos}(hN:X.N[i]?=some x)(hv:Vis X.env.scope x)(hd:(x == ("__debug__":Str))=false:=by decide)(hcd:(x == ("__classdict__":Str))=false:=by decide):PE X (.Name x pos) (tVar i):=by
 intro pins s σ H Q I h
 obtain ⟨v,e,h⟩:=h
 obtain ⟨m,hn,hl⟩:=I.loc
 obtain ⟨u,r,l⟩:=hl i x v hN e hv
 have fin:EP X pins σ Q u s:=⟨v,H,I,r,h⟩
 rcases l with ⟨hk,hm⟩ | ⟨hk,c,hc,hcell⟩
 ·exact wpAny_Name (wpAny_loadName_local I.ok.kind hk hn hm fin) hd
 ·rcases hk with hk | hk
  ·exact wpAny_Name (wpAny_loadName_cell I.ok.kind hk hc hcell fin) hd
  ·exact wpAny_Name (wpAny_loadName_free I.ok.kind hk hc hcell fin hcd) hd
theorem pe_int{i j pos}:PE X (.Constant (.int i) j pos) (tC (.int i)):=fun _ _ _ H _ I h=>wpAny_Constant_int ⟨.int i,H,I.tok _,⟨_,rfl⟩,h⟩
theorem pe_bl{b j pos}:PE X (.Constant (.bool b) j pos) (tC (.bl b)):=fun _ _ _ H _ I h=>Constant_bool ⟨.bl b,H,I,rfl,h⟩
theorem pe_non{j pos}:PE X (.Constant .none j pos) (tC .non):=fun _ _ _ H _ I h=>Constant_none ⟨.non,H,I,rfl,h⟩
theorem pe_str{x j pos}:PE X (.Constant (.str x) j pos) (tC (.str x)):=fun _ _ _ H _ I h=>Calls.Constant_str ⟨.str x,H,I.tok _,⟨_,rfl⟩,h⟩
noncomputable def Gl(X:Cx)(x:Str):Prop:=X.env.kindOf x=some .globalImplicit
theorem ld_glob{E:Value→Shared→Prop}{pins:List (Addr×Obj)}{s:Shared}{σ:St}{H:Hp}{x:Str}{u:Value}{pos:Pos}{Q:Value→Shared→Prop}(I:Inv X pins σ H s)(hg:Gl X x)(hm:X.mg x=some u)(h:Q u s)
  (hd:(x == ("__debug__":Str))=false:=by decide):wpAny (model X.prog X.w) X.A (eval (.Name x pos) X.env) Q E s :=
 Calls.Name_function_global I.ok.kind hg (Calls.loadGlobal_global (by rw [I.ok.glob];exact I.mod.glob.keeps I.bk) hm h) hd
theorem ld_blt{E:Value→Shared→Prop}{pins:List (Addr×Obj)}{s:Shared}{σ:St}{H:Hp}{x:Str}{u:Value}{pos:Pos}{Q:Value→Shared→Prop}(I:Inv X pins σ H s)(hg:Gl X x)(hm:X.mg x=none)(hv:bootBuiltins x=some u)(h:Q u s)
  (hn:x ≠ "__name__":=by decide) (hd:(x == ("__debug__":Str))=false:=by decide):wpAny (model X.prog X.w) X.A (eval (.Name x pos) X.env) Q E s:=by
 obtain ⟨mb,h1,h2⟩:=I.mod.blt
 exact Calls.Name_function_global I.ok.kind hg (Calls.loadGlobal_builtin (by rw [I.ok.glob];exact I.mod.glob.keeps I.bk) hm (by rw [I.ok.blt];exact h1.keeps I.bk) ((h2 x hn).trans hv) h) hd
theorem pe_glob{x:Str}{v:V}{u:Value}{pos:Pos}(hg:Gl X x)(hm:X.mg x=some u)(r:RelV v u)(hd:(x == ("__debug__":Str))=false:=by decide):PE X (.Name x pos) (tC v) :=
 fun _ _ _ H _ I h=>ld_glob I hg hm ⟨v,H,I,r,h⟩ hd
theorem pe_bltn{x:Str}{v:V}{u:Value}{pos:Pos}(hg:Gl X x)(hm:X.mg x=none)(hv:bootBuiltins x=some u)(r:RelV v u)(hn:x ≠ "__name__":=by decide)(hd:(x == ("__debug__":Str))=false:=by decide):PE X (.Name x pos) (tC v) :=
 fun _ _ _ H _ I h=>ld_blt I hg hm hv ⟨v,H,I,r,h⟩ hn hd
variable {a b:Expr} {ta tb:TE} {pos:Pos}
variable {tA tB':TT} {rest:List Expr}
noncomputable def tAnd(t u:TT):TT:=fun σ H Q=>t σ H fun c H1=>if c=true then u σ H1 Q else Q false H1
noncomputable def tOr(t u:TT):TT:=fun σ H Q=>t σ H fun c H1=>if c=true then Q true H1 else u σ H1 Q
noncomputable def tNot(t:TT):TT:=fun σ H Q=>t σ H fun c H1=>Q (!c) H1
theorem pw_and1(ha:PT X a tA):PW X (.BoolOp .And [a] pos) tA:=by
 intro wh pins s σ H Q I h
 refine isTrue_and (thn (ha pins s σ H Q I h) fun c s1 e=>?_)
 cases c with
 |true=>exact isTrue_and_nil e
 |false=>exact e
theorem pw_or1(ha:PT X a tA):PW X (.BoolOp .Or [a] pos) tA:=by
 intro wh pins s σ H Q I h
 refine isTrue_or (thn (ha pins s σ H Q I h) fun c s1 e=>?_)
 cases c with
 |false=>exact isTrue_or_nil e
 |true=>exact e
theorem pw_and(ha:PT X a tA)(hb:PW X (.BoolOp .And (b :: rest) pos) tB'):PW X (.BoolOp .And (a :: b :: rest) pos) (tAnd tA tB'):=by
 intro wh pins s σ H Q I h
 refine isTrue_and (thn (ha pins s σ H _ I h) fun c s1 zz0=>?_)
 obtain ⟨H1,I1,q1⟩:=zz0
 cases c with
 |true=>exact hb wh pins s1 σ H1 Q I1 q1
 |false=>exact ⟨H1,I1,q1⟩
theorem pw_or(ha:PT X a tA)(hb:PW X (.BoolOp .Or (b :: rest) pos) tB'):PW X (.BoolOp .Or (a :: b :: rest) pos) (tOr tA tB'):=by
 intro wh pins s σ H Q I h
 refine isTrue_or (thn (ha pins s σ H _ I h) fun c s1 zz0=>?_)
 obtain ⟨H1,I1,q1⟩:=zz0
 cases c with
 |true=>exact ⟨H1,I1,q1⟩
 |false=>exact hb wh pins s1 σ H1 Q I1 q1
theorem pt_not(ha:PT X a tA):PT X (.UnaryOp .Not a pos) (tNot tA):=by
 intro pins s σ H Q I h
 exact isTrue_not (ha pins s σ H (fun c H1=>Q (!c) H1) I h)
noncomputable def tAndV(ta tb:TE):TE:=fun σ H Q=>ta σ H fun x H1=>∃ c,x = .bl c∧if c=true then tb σ H1 Q else Q (.bl false) H1
noncomputable def tOrV(ta tb:TE):TE:=fun σ H Q=>ta σ H fun x H1=>∃ c,x = .bl c∧if c=true then Q (.bl true) H1 else tb σ H1 Q
theorem pe_one{op}{t:TE}(h:PE X a t):PE X (.BoolOp op [a] pos) t:=fun pins s σ H Q I hw=>BoolOp_one (h pins s σ H Q I hw)
theorem pe_and(ha:PE X a ta)(hb:PE X (.BoolOp .And (b :: rest) pos) tb):PE X (.BoolOp .And (a :: b :: rest) pos) (tAndV ta tb):=by
 intro pins s σ H Q I h
 refine BoolOp_and (thn (ha pins s σ H _ I h) fun v s1 zz0=>?_)
 obtain ⟨x,H1,I1,r1,q1⟩:=zz0
 obtain ⟨c,rfl,q1⟩:=q1
 cases r1
 refine wpAny_truthy_bool ?_
 cases c with
 |true=>exact hb pins s1 σ H1 Q I1 q1
 |false=>exact ⟨.bl false,H1,I1,rfl,q1⟩
theorem pe_or(ha:PE X a ta)(hb:PE X (.BoolOp .Or (b :: rest) pos) tb):PE X (.BoolOp .Or (a :: b :: rest) pos) (tOrV ta tb):=by
 intro pins s σ H Q I h
 refine BoolOp_or (thn (ha pins s σ H _ I h) fun v s1 zz0=>?_)
 obtain ⟨x,H1,I1,r1,q1⟩:=zz0
 obtain ⟨c,rfl,q1⟩:=q1
 cases r1
 refine wpAny_truthy_bool ?_
 cases c with
 |false=>exact hb pins s1 σ H1 Q I1 q1
 |true=>exact ⟨.bl true,H1,I1,rfl,q1⟩
noncomputable def tIf(t:TT)(ta tb:TE):TE:=fun σ H Q=>t σ H fun c H1=>if c=true then ta σ H1 Q else tb σ H1 Q
theorem pe_ifExp{c:Expr}(hc:PT X c tA)(ha:PE X a ta)(hb:PE X b tb):PE X (.IfExp c a b pos) (tIf tA ta tb):=by
 intro pins s σ H Q I h
 refine wpAny_IfExp (thn (hc pins s σ H _ I h) fun d s1 zz0=>?_)
 obtain ⟨H1,I1,q1⟩:=zz0
 cases d with
 |true=>exact ha pins s1 σ H1 Q I1 q1
 |false=>exact hb pins s1 σ H1 Q I1 q1
end
end L2
namespace L2
open PySem PySem.Spec PyProof.Rows
noncomputable def SqL(K:PySem.W.Frag)(H:Hp)(a:Addr)(xs:List V):Prop :=
 Rd H a (.lst xs) ∨
  ∃ (o:Obj) (its:Array Value) (n:Nat),K.lookup a=some o∧o.cls = .type "list"∧o.dict=none∧o.data = .seq its n∧its.size ≤ sizeLine∧Vals xs its.toList
noncomputable def SqT(K:PySem.W.Frag)(H:Hp)(a:Addr)(xs:List V):Prop :=
 Rd H a (.tup xs) ∨
  ∃ (o:Obj) (its:Array Value) (n:Nat),K.lookup a=some o∧o.cls = .type "tuple"∧o.data = .seq its n∧its.size ≤ sizeLine∧Vals xs its.toList
noncomputable def absV:Value→Option V
 |.none=>some .non
 |.bool b=>some (.bl b)
 |.int i _=>some (.int i)
 |.str x _=>some (.str x)
 |.bytes b _=>some (.byt b)
 |.float b _=>some (.flt b)
 |.ref a=>some (.ref a)
 |.type n=>some (.ty n)
 |_=>none
theorem RelV.abs{x:V}{u:Value}(r:RelV x u):absV u=some x:=by
 cases x with
 |non=>cases r;rfl
 |bl _=>cases r;rfl
 |int _=>obtain ⟨t,rfl⟩:=r;rfl
 |str _=>obtain ⟨t,rfl⟩:=r;rfl
 |byt _=>obtain ⟨t,rfl⟩:=r;rfl
 |flt _=>obtain ⟨t,rfl⟩:=r;rfl
 |ref _=>cases r;rfl
 |ty _=>cases r;rfl
theorem RelV.inj{x y:V}{u:Value}(r:RelV x u)(q:RelV y u):x=y:=Option.some.inj (r.abs.symm.trans q.abs)
theorem Vals.inj{xs ys:List V}{us:List Value}(h:Vals xs us)(h':Vals ys us):xs=ys:=by
 induction h generalizing ys with
 |nil=>cases h';rfl
 |cons r _ ih =>
  cases h' with
  |cons r' t'=>rw [r.inj r',ih t']
section
variable {X:Cx} {pins:List (Addr×Obj)} {σ:St} {H:Hp} {s:Shared} {a:Addr} {xs ys:List V}
theorem SqL.of{K:PySem.W.Frag}(h:H a=some (.lst xs)):SqL K H a xs:=.inl (.inl h)
theorem Inv.list(I:Inv X pins σ H s)(h:SqL X.K H a xs):∃ its:List Value,Vals xs its∧PlainL s.heap a its.toArray∧xs.length ≤ sizeLine:=by
 rcases h with h | ⟨o,its,n,hk,hc,hd,hs,hz,r⟩
 ·obtain ⟨z,its,n,r,e⟩:=h.ok I.hok
  exact ⟨its,r,⟨_,n,e,rfl,rfl,rfl⟩,z⟩
 ·refine ⟨its.toList,r,⟨o,n,I.kIn a o hk,hc,hd,by simpa using hs⟩,?_⟩
  have e:=r.length
  simp only [Array.length_toList] at e
  omega
theorem Inv.tuple(I:Inv X pins σ H s)(h:SqT X.K H a xs):∃ its:List Value,Vals xs its∧IsTup s.heap a its.toArray∧xs.length ≤ sizeLine:=by
 rcases h with h | ⟨o,its,n,hk,hc,hs,hz,r⟩
 ·obtain ⟨z,its,r,p⟩:=h.ok I.hok
  exact ⟨its,r,p,z⟩
 ·refine ⟨its.toList,r,⟨o,I.kIn a o hk,hc,n,by simpa using hs⟩,?_⟩
  have e:=r.length
  simp only [Array.length_toList] at e
  omega
theorem Inv.list_inj(I:Inv X pins σ H s)(h:SqL X.K H a xs)(h':SqL X.K H a ys):xs=ys:=by
 obtain ⟨its,r,⟨o,n,e,_,_,d⟩,_⟩:=I.list h
 obtain ⟨its',r',⟨o',n',e',_,_,d'⟩,_⟩:=I.list h'
 rw [e] at e';cases e'
 rw [d] at d'
 injection d' with d1 _
 have:its=its':=by simpa using congrArg Array.toList d1
 subst this
 exact r.inj r'
theorem Inv.tuple_inj(I:Inv X pins σ H s)(h:SqT X.K H a xs)(h':SqT X.K H a ys):xs=ys:=by
 obtain ⟨its,r,⟨o,e,_,n,d⟩,_⟩:=I.tuple h
 obtain ⟨its',r',⟨o',e',_,n',d'⟩,_⟩:=I.tuple h'
 rw [e] at e';cases e'
 rw [d] at d'
 injection d' with d1 _
 have:its=its':=by simpa using congrArg Array.toList d1
 subst this
 exact r.inj r'
end
noncomputable abbrev Cx.wish(X:Cx)(E:Value→Shared→Prop):Cx:={ X with xe:=E }
noncomputable abbrev Cx.nox(X:Cx):Cx:=X.wish fun _ _=>False
theorem Cx.Ok.wish{X:Cx}(ok:X.Ok)(E:Value→Shared→Prop):(X.wish E).Ok :=
 ⟨ok.mod,ok.kind,ok.glob,ok.blt,ok.above,ok.inj,ok.has,ok.cab,ok.hd,ok.frames,ok.stk,ok.exf,ok.bs,ok.bsz,ok.noex,ok.exfs,ok.funs,ok.frf⟩
theorem Cx.Ok.unwish{X:Cx}{E:Value→Shared→Prop}(ok:(X.wish E).Ok):X.Ok :=
 ⟨ok.mod,ok.kind,ok.glob,ok.blt,ok.above,ok.inj,ok.has,ok.cab,ok.hd,ok.frames,ok.stk,ok.exf,ok.bs,ok.bsz,ok.noex,ok.exfs,ok.funs,ok.frf⟩
section
variable {X:Cx} {pins:List (Addr×Obj)} {σ:St} {H:Hp} {s:Shared} {E:Value→Shared→Prop}
theorem Inv.wish(I:Inv X pins σ H s)(E:Value→Shared→Prop):Inv (X.wish E) pins σ H s:=⟨I.ok.wish E,I.os,I.bare,I.base,I.loc,I.cell,I.free,I.freeC,I.pin,I.hok,I.len⟩
theorem Inv.unwish(I:Inv (X.wish E) pins σ H s):Inv X pins σ H s:=⟨I.ok.unwish,I.os,I.bare,I.base,I.loc,I.cell,I.free,I.freeC,I.pin,I.hok,I.len⟩
theorem SP.unwish{D:Ends}{f:Flow}{s':Shared}(h:SP (X.wish E) pins D f s'):SP X pins D f s':=by
 cases f with
 |next=>obtain ⟨σ',H',I,q⟩:=h;exact ⟨σ',H',I.unwish,q⟩
 |brk=>obtain ⟨σ',H',I,q⟩:=h;exact ⟨σ',H',I.unwish,q⟩
 |cont=>obtain ⟨σ',H',I,q⟩:=h;exact ⟨σ',H',I.unwish,q⟩
 |ret u=>obtain ⟨v,σ',H',I,r,q⟩:=h;exact ⟨v,σ',H',I.unwish,r,q⟩
theorem PSs.nox{st:List Stmt}{t:TS}(h:PSs X.nox st t):PSs X st t:=fun pins s σ H D I hw =>
 wpAny_mono (h pins s σ H D (I.wish _) hw) (fun _ _ q=>q.unwish) fun _ _ z=>False.elim z
end
section
variable {X:Cx} {st:Stmt} {rest:List Stmt} {t u:TS} {e:Expr} {te:TE} {pos:Pos}
noncomputable def tNext:TS:=fun D σ H=>D.nx σ H
noncomputable def tSeq(t u:TS):TS:=fun D σ H=>t { D with nx:=u D } σ H
theorem pss_nil:PSs X [] tNext:=fun _ _ σ H _ I h=>wpAny_execs_nil ⟨σ,H,I,h⟩
theorem pss_cons(h1:PS X st t)(h2:PSs X rest u):PSs X (st :: rest) (tSeq t u):=by
 intro pins s σ H D I h
 refine wpAny_execs_cons (thn (h1 pins s σ H { D with nx:=u D } I h) fun f s1 q=>?_)
 cases f with
 |next =>
  obtain ⟨σ',H',I',q⟩:=q
  exact h2 pins s1 σ' H' D I' q
 |ret v=>exact q
 |brk=>exact q
 |cont=>exact q
theorem pss_one(h1:PS X st t):PSs X [st] t:=by
 intro pins s σ H D I h
 refine wpAny_execs_cons (thn (h1 pins s σ H D I h) fun f s1 q=>?_)
 cases f with
 |next=>exact wpAny_execs_nil q
 |ret v=>exact q
 |brk=>exact q
 |cont=>exact q
theorem Inv.quiet{pins:List (Addr×Obj)}{σ:St}{H:Hp}{s:Shared}(I:Inv X pins σ H s):interactive X.env=false:=by simp [interactive,I.ok.kind]
noncomputable def tDrop(te:TE):TS:=fun D σ H=>te σ H fun _ H1=>D.nx σ H1
theorem ps_expr(he:PE X e te)(hs:swapsWith e none pos.line X.env=pure false:=by rfl):PS X (.Expr e pos) (tDrop te):=by
 intro pins s σ H D I h
 exact wpAny_Expr_any (thn (he pins s σ H _ I h) fun v s1 ⟨x,H1,I1,r1,q1⟩=>⟨σ,H1,I1,q1⟩) I.quiet hs
noncomputable def tRet(te:TE):TS:=fun D σ H=>te σ H D.rt
theorem ps_ret(he:PE X e te):PS X (.Return (some e) pos) (tRet te):=by
 intro pins s σ H D I h
 exact wpAny_Return_some (thn (he pins s σ H _ I h) fun v s1 ⟨x,H1,I1,r1,q1⟩=>⟨x,σ,H1,I1,r1,q1⟩)
noncomputable def tIfS(c:TT)(t u:TS):TS:=fun D σ H=>c σ H fun b H1=>if b=true then t D σ H1 else u D σ H1
theorem ps_if{c:Expr}{a b:List Stmt}{tc:TT}(hc:PT X c tc)(ha:PSs X a t)(hb:PSs X b u):PS X (.If c a b pos) (tIfS tc t u):=by
 intro pins s σ H D I h
 refine wpAny_If (thn (hc pins s σ H _ I h) fun d s1 zz0=>?_)
 obtain ⟨H1,I1,q1⟩:=zz0
 cases d with
 |true=>exact ha pins s1 σ H1 D I1 q1
 |false=>exact hb pins s1 σ H1 D I1 q1
end
noncomputable abbrev TG:=V→St→Hp→(St→Hp→Prop)→Prop
noncomputable abbrev TGs:=List V→St→Hp→(St→Hp→Prop)→Prop
noncomputable def PG(X:Cx)(target:Expr)(t:TG):Prop :=
 ∀ (pins:List (Addr×Obj)) (s:Shared) (σ:St) (H:Hp) (v:V) (u:Value) (Q:St→Hp→Prop),Inv X pins σ H s→RelV v u→t v σ H Q →
  wpAny (model X.prog X.w) X.A (assign target X.env u) (fun _ s'=>∃ σ' H',Inv X pins σ' H' s'∧Q σ' H') X.xe s
noncomputable def PGs(X:Cx)(ts:List Expr)(t:TGs):Prop :=
 ∀ (pins:List (Addr×Obj)) (s:Shared) (σ:St) (H:Hp) (vs:List V) (us:List Value) (Q:St→Hp→Prop),Inv X pins σ H s→Vals vs us→t vs σ H Q →
  wpAny (model X.prog X.w) X.A (assignInOrder ((assignEach ts X.env).map (·.2)) us) (fun _ s'=>∃ σ' H',Inv X pins σ' H' s'∧Q σ' H') X.xe s
noncomputable abbrev TSet:=V→V→V→Hp→(Hp→Prop)→Prop
noncomputable def PSet(X:Cx)(t:TSet):Prop :=
 ∀ (pins:List (Addr×Obj)) (s:Shared) (σ:St) (H:Hp) (o i v:V) (ov iv u:Value) (Q:Hp→Prop),Inv X pins σ H s→RelV o ov→RelV i iv→RelV v u→t o i v H Q →
  wpAny (model X.prog X.w) X.A (setItem ov iv u) (fun _ s'=>∃ H',Inv X pins σ H' s'∧Q H') X.xe s
section
variable {X:Cx} {pos:Pos}
noncomputable def gName(i:Nat):TG:=fun v σ H Q=>Q (σ.set i (some v)) H
theorem pg_name{i:Nat}{x:Str}(hN:X.N.Nodup)(hi:X.N[i]?=some x)(hx:Loc X.env.scope x)(hf:X.fn x=true∨X.env.scope.names.lookup x=some .local:=by trivial):PG X (.Name x pos) (gName i):=by
 intro pins s σ H v u Q I r h
 exact wpAny_assign_Name (store_ok I hN hi hx r (fun s' I'=>⟨_,H,I',h⟩) hf)
noncomputable def gNil:TGs:=fun vs σ H Q=>vs=[]∧Q σ H
noncomputable def gCons(t:TG)(u:TGs):TGs:=fun vs σ H Q=>∃ v r,vs=v :: r∧t v σ H fun σ' H'=>u r σ' H' Q
theorem pgs_nil:PGs X [] gNil:=by
 intro pins s σ H vs us Q I r h
 obtain ⟨e,h⟩:=h
 subst e
 cases r
 exact assignInOrder_nil ⟨σ,H,I,h⟩
theorem pgs_cons{e:Expr}{es:List Expr}{t:TG}{u:TGs}(h1:PG X e t)(h2:PGs X es u)
  (hs:(assignEach (e :: es) X.env).map (·.2)=assign e X.env :: (assignEach es X.env).map (·.2):=by rfl):PGs X (e :: es) (gCons t u):=by
 intro pins s σ H vs us Q I r h
 obtain ⟨v,vr,e1,h⟩:=h
 subst e1
 cases r with
 |cons r rr =>
  rw [hs]
  refine assignInOrder_cons (thn (h1 pins s σ H _ _ _ I r h) fun _ s1 zz0=>?_)
  obtain ⟨σ1,H1,I1,q1⟩:=zz0
  exact h2 pins s1 σ1 H1 _ _ Q I1 rr q1
noncomputable def gTup(K:PySem.W.Frag)(n:Nat)(t:TGs):TG:=fun v σ H Q=>∃ a xs,v = .ref a∧SqT K H a xs∧xs.length=n∧t xs σ H Q
theorem pg_tup{es:List Expr}{k:Nat}{t:TGs}{n:Nat}(hc:X.calm=true)(h:PGs X es t)
  (hn:(assignEach es X.env).length=n:=by rfl) (hst:(assignEach es X.env).findIdx? (·.1)=none:=by rfl):PG X (.Tuple es k pos) (gTup X.K n t):=by
 intro pins s σ H v u Q I r hw
 obtain ⟨a,xs,e1,hq,hl,hw⟩:=hw
 subst e1
 cases r
 obtain ⟨its,rv,ht,hz⟩:=I.tuple hq
 refine assign_Tuple_tuple (I.ok.hd hc) ht (by simp [hn,← hl,rv.length]) hst fun h' hx=>?_
 have I1:Inv X pins σ H { s with heap:=h' }:=I.kept (t':=s.toks) fun b o e=>hx b o (Nat.ne_of_lt (Heap.lt_size e)) e
 exact h pins _ σ H xs _ Q I1 (by simpa using rv) hw
noncomputable def gSub(to ti:TE)(t:TSet):TG:=fun v σ H Q=>to σ H fun o H1=>ti σ H1 fun i H2=>t o i v H2 fun H3=>Q σ H3
theorem pg_sub{o i:Expr}{to ti:TE}{t:TSet}(ho:PE X o to)(hi:PE X i ti)(hs:PSet X t)
  (ha:∀ v,assign (.Subscript o i pos) X.env v=(do
   let ov ← holding [v] (eval o X.env)
   let iv ← holding [v,ov] (eval i X.env)
   standAt pos
   holding [v,ov,iv] (setItem ov iv v)
   release [v,ov,iv] []):=by intro _;rfl):PG X (.Subscript o i pos) (gSub to ti t):=by
 intro pins s σ H v u Q I r h
 rw [ha]
 refine wpAny_bind (wpAny_holding (thn (ho pins s σ H _ I h) fun ov s1 zz0=>?_))
 obtain ⟨x,H1,I1,r1,q1⟩:=zz0
 refine wpAny_bind (wpAny_holding (thn (hi pins s1 σ H1 _ I1 q1) fun iv s2 zz0=>?_))
 obtain ⟨y,H2,I2,r2,q2⟩:=zz0
 refine wpAny_bind (wpAny_standAt (wpAny_bind (wpAny_holding (thn (hs pins s2 σ H2 x y v ov iv u _ I2 r1 r2 r q2) fun _ s3 zz0=>?_))))
 obtain ⟨H3,I3,q3⟩:=zz0
 exact wpAny_release ⟨σ,H3,I3,q3⟩
noncomputable def tAsg(te:TE)(g:TG):TS:=fun D σ H=>te σ H fun x H1=>g x σ H1 D.nx
theorem ps_asg{tg e:Expr}{te:TE}{g:TG}(he:PE X e te)(hg:PG X tg g)(hs:swapsWithSole [tg] e pos.line X.env=pure false:=by rfl)(hw:swappedStores [tg] e X.env=pure none:=by rfl)
  (h1:(assignEach [tg] X.env).map (·.2)=[assign tg X.env]:=by rfl):PS X (.Assign [tg] e pos) (tAsg te g):=by
 intro pins s σ H D I h
 refine wpAny_Assign_stores (thn (he pins s σ H _ I h) fun v s1 ⟨x,H1,I1,r1,q1⟩=>?_) hs hw
 rw [h1]
 exact thn (hg pins s1 σ H1 x v _ I1 r1 q1) fun _ s2 q=>q
theorem ps_set{i:Nat}{x:Str}{e:Expr}{te:TE}{pos':Pos}(hN:X.N.Nodup)(hi:X.N[i]?=some x)(hx:Loc X.env.scope x)(he:PE X e te)(hs:swapsWith e (some (.Name x pos')) pos.line X.env=pure false:=by rfl)(hf:X.fn x=true∨X.env.scope.names.lookup x=some .local:=by trivial) :
  PS X (.Assign [.Name x pos'] e pos) (tAsg te (gName i)):=by
 intro pins s σ H D I h
 refine wpAny_Assign_Name (thn (he pins s σ H _ I h) fun v s1 zz0=>?_) hs
 obtain ⟨y,H1,I1,r1,q1⟩:=zz0
 exact store_ok I1 hN hi hx r1 (fun s2 I2=>⟨_,H1,I2,q1⟩) hf
end
section
variable {X:Cx} {pos:Pos}
end
structure It where
 go:Nat→Hp→Prop
 yld:Nat→Hp→V→Hp→Prop
 stop:Nat→Hp→Prop
noncomputable def FpOk(X:Cx)(pins:List (Addr×Obj))(H:Hp)(b:Addr):Prop :=
 H b=none∧b ≠ X.env.locals∧b ∉ X.fs∧(b ∈ X.ex∨X.s₀.heap.objs.size ≤ b)∧(∀ x c,X.env.cells.lookup x=some c→c ≠ b)∧∀ p ∈ X.pn ++ pins,p.1 ≠ b
theorem Inv.fpOk{X:Cx}{pins:List (Addr×Obj)}{σ:St}{H H':Hp}{s:Shared}{b:Addr}(I:Inv X pins σ H s)(hb:s.heap.objs.size ≤ b)(hn:H' b=none):FpOk X pins H' b:=by
 refine ⟨hn,Nat.ne_of_gt (Nat.lt_of_lt_of_le I.lt hb),I.nofs hb,.inr (Nat.le_trans I.sz hb),fun x c e z=>?_,fun p hp z=>?_⟩
 ·obtain ⟨v,q⟩:=I.cell x c e
  exact absurd (Nat.lt_of_lt_of_le q.lt (by rw [z];exact hb)) (Nat.lt_irrefl _)
 ·exact absurd (Nat.lt_of_lt_of_le (Heap.lt_size (I.pin p hp).1) (by rw [z];exact hb)) (Nat.lt_irrefl _)
structure Turn(P:Program)(w:World)(K:PySem.W.Frag)(tg:Expr)(J:It)(fp:List Addr)(it:Addr)(tn:Nat→Heap→Prop):Prop where
 mem:it ∈ fp
 obj:∀ i h,tn i h→∀ b ∈ fp,∃ o,h.get? b=some o∧∀ v,o.data ≠ .cell v
 keep:∀ i h h',tn i h→(∀ b ∈ fp,∀ o,h.get? b=some o→h'.get? b=some o)→tn i h'
 item:∀ (X:Cx),X.prog=P→X.w=w→X.K=K→X.calm=true→∀ (i:Nat) (pins:List (Addr×Obj)) (s:Shared) (σ:St) (H:Hp) (E:Value→Shared→Prop),Inv X pins σ H s→(∀ b ∈ fp,FpOk X pins H b)→tn i s.heap→J.go i H →
  wpAny (model P w) X.A (pyNext (.ref it)) (fun r s1=>∃ u,r=some u ∧
   wpAny (model P w) X.A (letOwnedTupleGo tg (.ref it) u) (fun _ s2=>∃ x H',Inv X pins σ H' s2∧RelV x u∧J.yld i H x H'∧tn (i + 1) s2.heap∧∀ b ∈ fp,H' b=none) E s1) E s
 done:∀ (X:Cx),X.prog=P→X.w=w→X.K=K→X.calm=true→∀ (i:Nat) (pins:List (Addr×Obj)) (s:Shared) (σ:St) (H:Hp) (E:Value→Shared→Prop),Inv X pins σ H s→(∀ b ∈ fp,FpOk X pins H b)→tn i s.heap→J.stop i H →
  wpAny (model P w) X.A (pyNext (.ref it)) (fun r s1=>r=none∧Inv X pins σ H s1) E s
 self:∀ (A:Around) (i:Nat) (s:Shared) (Q:Value→Shared→Prop) (E:Value→Shared→Prop),tn i s.heap→Q (.ref it) s→wpAny (model P w) A (pyIter (.ref it)) Q E s
noncomputable abbrev TI:=St→Hp→(It→Hp→Prop)→Prop
noncomputable def PIE(X:Cx)(pins:List (Addr×Obj))(σ:St)(tg:Expr)(R:It→Hp→Prop)(itv:Value)(s2:Shared):Prop :=
 ∃ (it:Addr) (fp:List Addr) (tn:Nat→Heap→Prop) (J:It) (H':Hp),itv = .ref it∧Inv X pins σ H' s2∧Turn X.prog X.w X.K tg J fp it tn∧tn 0 s2.heap∧(∀ b ∈ fp,FpOk X pins H' b)∧R J H'
noncomputable def PI(X:Cx)(tg iter:Expr)(wi:TI):Prop :=
 ∀ (pins:List (Addr×Obj)) (s:Shared) (σ:St) (H:Hp) (R:It→Hp→Prop),Inv X pins σ H s→wi σ H R →
  wpAny (model X.prog X.w) X.A (eval iter X.env) (fun v s1=>wpAny (model X.prog X.w) X.A (pyIter v) (PIE X pins σ tg R) X.xe s1) X.xe s
theorem go_of{M:Model}{A:Around}{E:Value→Shared→Prop}{s:Shared}{tg:Expr}{it:Addr}{u:Value}{o:Obj}{n:String}{vs:Array Value}{Q:Unit→Shared→Prop}(ho:s.heap.get? it=some o)(hc:o.cls = .type n)(hd:o.data = .fields vs)
  (hn:["enumerate","zip","dict_itemiterator","dict_reverseitemiterator","odict_iterator","itertools.zip_longest","itertools.pairwise"].contains n=false) (hQ:Q () s):wpAny M A (letOwnedTupleGo tg (.ref it) u) Q E s:=by
 unfold letOwnedTupleGo
 cases tg <;> first
  |exact wpAny_pure hQ
  |(cases u <;> first
    |exact wpAny_pure hQ
    |(refine wpAny_bind (wpAny_load ho ?_)
      rw [hc,hd]
      show wpAny M A (if (["enumerate","zip","dict_itemiterator","dict_reverseitemiterator","odict_iterator","itertools.zip_longest","itertools.pairwise"].contains n && vs[0]? == some (rawInt _))=true then _ else _) Q E s
      rw [if_neg (by intro h;rw [hn,Bool.false_and] at h;cases h)]
      exact wpAny_pure hQ))
noncomputable def Itl(K:PySem.W.Frag)(a:Addr):It :=
 ⟨fun i H=>∃ xs x,SqL K H a xs∧xs[i]?=some x,fun i H x H'=>H'=H∧∀ xs,SqL K H a xs→xs[i]?=some x,fun i H=>∃ xs,SqL K H a xs∧xs.length ≤ i⟩
noncomputable def Itt(K:PySem.W.Frag)(a:Addr):It :=
 ⟨fun i H=>∃ xs x,SqT K H a xs∧xs[i]?=some x,fun i H x H'=>H'=H∧∀ xs,SqT K H a xs→xs[i]?=some x,fun i H=>∃ xs,SqT K H a xs∧xs.length ≤ i⟩
noncomputable def Itr(lo:Int)(n:Nat):It:=⟨fun i _=>i < n,fun i H x H'=>H'=H∧x = .int (lo + i),fun i _=>n ≤ i⟩
theorem turn_list{P:Program}{w:World}{K:PySem.W.Frag}{tg:Expr}(a it:Addr):Turn P w K tg (Itl K a) [it] it (fun i h=>h.IsListIter it a i) where
 mem:=by simp
 obj:=fun i h st b hb=>by
  have e:b=it:=by simpa using hb
  subst e
  obtain ⟨o,e,c,d⟩:=st
  exact ⟨o,e,fun v z=>by rw [d] at z;cases z⟩
 keep:=fun i h h' st k=>st.at fun o e=>k it (by simp) o e
 item:=by
  intro X hP hw hK hc i pins s σ H E I hf st hg
  subst hP hw hK
  obtain ⟨xs,x,hq,hx⟩:=hg
  obtain ⟨its,rv,p,hz⟩:=I.list hq
  obtain ⟨u,hu,ru⟩:=rv.get hx
  obtain ⟨f0,f1,f2,f3,f4,f5⟩:=hf it (by simp)
  refine wpAny_pyNext_list_item st p.isList (x:=u) (by simpa using hu) fun h' st' sb=>?_
  have I1:Inv X pins σ H { s with heap:=h' }:=I.turned (t':=s.toks) (fun b o hb e=>(sb.2 b hb).trans e) f0 f1 f3 f4 f5
  obtain ⟨o,e,c,d⟩:=id st'
  exact ⟨u,rfl,go_of (s:={ s with heap:=h' }) e c d (by decide) ⟨x,H,I1,ru,⟨rfl,fun ys hy=>by rw [I.list_inj hy hq];exact hx⟩,st',fun b hb=>(hf b hb).1⟩⟩
 done:=by
  intro X hP hw hK hc i pins s σ H E I hf st hg
  subst hP hw hK
  obtain ⟨xs,hq,hx⟩:=hg
  obtain ⟨its,rv,p,hz⟩:=I.list hq
  obtain ⟨f0,f1,f2,f3,f4,f5⟩:=hf it (by simp)
  have hl:=rv.length
  exact wpAny_pyNext_list_end (I.ok.hd hc) st p.isList (by simp;omega) fun h' eb=>⟨rfl,I.turned (t':=s.toks) (fun b o hb e=>eb b o hb e) f0 f1 f3 f4 f5⟩
 self:=fun _ _ _ _ _ st h=>wpAny_pyIter_listiter st h
theorem turn_tuple{P:Program}{w:World}{K:PySem.W.Frag}{tg:Expr}(a it:Addr):Turn P w K tg (Itt K a) [it] it (fun i h=>h.IsTupleIter it a i) where
 mem:=by simp
 obj:=fun i h st b hb=>by
  have e:b=it:=by simpa using hb
  subst e
  obtain ⟨o,e,c,d⟩:=st
  exact ⟨o,e,fun v z=>by rw [d] at z;cases z⟩
 keep:=fun i h h' st k=>st.at fun o e=>k it (by simp) o e
 item:=by
  intro X hP hw hK hc i pins s σ H E I hf st hg
  subst hP hw hK
  obtain ⟨xs,x,hq,hx⟩:=hg
  obtain ⟨its,rv,p,hz⟩:=I.tuple hq
  obtain ⟨u,hu,ru⟩:=rv.get hx
  obtain ⟨f0,f1,f2,f3,f4,f5⟩:=hf it (by simp)
  refine wpAny_pyNext_tuple_item st (show s.heap.IsTuple a its.toArray from p) (x:=u) (by simpa using hu) fun h' st' sb=>?_
  have I1:Inv X pins σ H { s with heap:=h' }:=I.turned (t':=s.toks) (fun b o hb e=>(sb.2 b hb).trans e) f0 f1 f3 f4 f5
  obtain ⟨o,e,c,d⟩:=id st'
  exact ⟨u,rfl,go_of (s:={ s with heap:=h' }) e c d (by decide) ⟨x,H,I1,ru,⟨rfl,fun ys hy=>by rw [I.tuple_inj hy hq];exact hx⟩,st',fun b hb=>(hf b hb).1⟩⟩
 done:=by
  intro X hP hw hK hc i pins s σ H E I hf st hg
  subst hP hw hK
  obtain ⟨xs,hq,hx⟩:=hg
  obtain ⟨its,rv,p,hz⟩:=I.tuple hq
  obtain ⟨f0,f1,f2,f3,f4,f5⟩:=hf it (by simp)
  have hl:=rv.length
  exact wpAny_pyNext_tuple_end (I.ok.hd hc) st (show s.heap.IsTuple a its.toArray from p) (by simp;omega) fun h' eb=>⟨rfl,I.turned (t':=s.toks) (fun b o hb e=>eb b o hb e) f0 f1 f3 f4 f5⟩
 self:=fun _ _ _ _ _ st h=>wpAny_pyIter_tupleiter st h
theorem turn_range{P:Program}{w:World}{K:PySem.W.Frag}{tg:Expr}(it:Addr)(lo:Int)(n:Nat):Turn P w K tg (Itr lo n) [it] it (fun i h=>IsRangeIter h it (lo + (i:Nat) * 1) ((n:Int) - (i:Nat)) 1) where
 mem:=by simp
 obj:=fun i h st b hb=>by
  have e:b=it:=by simpa using hb
  subst e
  exact ⟨_,st,fun v z=>by
   have z':Data.fields _=Data.cell v:=z
   cases z'⟩
 keep:=fun i h h' st k=>k it (by simp) _ st
 item:=by
  intro X hP hw hK hc i pins s σ H E I hf st hg
  subst hP hw hK
  obtain ⟨f0,f1,f2,f3,f4,f5⟩:=hf it (by simp)
  have W:=Walks.range (prog:=X.prog) (w:=X.w) (I.ok.hd hc) it lo 1 n
  refine W.item i s _ _ hg st fun v h' tk hv st' kk=>?_
  obtain ⟨t,rfl⟩:=hv
  have I1:Inv X pins σ H { s with heap:=h',toks:=tk }:=I.turned (fun b o hb e=>kk b o (by simpa using hb) e) f0 f1 f3 f4 f5
  refine ⟨_,rfl,go_of (s:={ s with heap:=h',toks:=tk }) (n:= "range_iterator") st' rfl rfl (by decide) ⟨.int (lo + i),H,I1,⟨t,?_⟩,⟨rfl,rfl⟩,st',fun b hb=>(hf b hb).1⟩⟩
  rw [Int.mul_one]
 done:=by
  intro X hP hw hK hc i pins s σ H E I hf st hg
  subst hP hw hK
  obtain ⟨f0,f1,f2,f3,f4,f5⟩:=hf it (by simp)
  exact wpAny_pyNext_range_end (I.ok.hd hc) st (by have:n ≤ i:=hg;omega) fun h' eb=>⟨rfl,I.turned (t':=s.toks) (fun b o hb e=>eb b o hb e) f0 f1 f3 f4 f5⟩
 self:=fun _ _ _ _ _ st h=>wpAny_pyIter_rangeiter st h
end L2
namespace L2
open PySem PySem.Spec PyProof.Rows
section
variable {X:Cx} {tg:Expr}
theorem range_it{pins:List (Addr×Obj)}{σ:St}{H:Hp}{s:Shared}{R:It→Hp→Prop}{E:Value→Shared→Prop}{lo hi:Int}{t u v:Tok}{tk:Nat}(I:Inv X pins σ H s)(h1:-(2 ^ 62) ≤ lo)(h2:lo < 2 ^ 62)(h3:-(2 ^ 62) ≤ hi)(h4:hi < 2 ^ 62)
  (q:R (Itr lo (hi - lo).toNat) H):wpAny (model X.prog X.w) X.A (pyIter (.ref s.heap.objs.size)) (PIE X pins σ tg R) E { s with heap:=s.heap.push { cls:=.type "range",data:=.fields #[.int lo t,.int hi u,.int 1 v] },toks:=tk }:=by
 refine wpAny_pyIter_range (IsRange.new ..) (small_one h1 h2 h3 h4) ?_
 have I1:Inv X pins σ H { s with heap:=s.heap.push { cls:=.type "range",data:=.fields #[.int lo t,.int hi u,.int 1 v] },toks:=tk }:=I.kept fun b o e=>Heap.get?_push_of_some _ e
 refine ⟨(s.heap.push { cls:=.type "range",data:=.fields #[.int lo t,.int hi u,.int 1 v] }).objs.size,[(s.heap.push { cls:=.type "range",data:=.fields #[.int lo t,.int hi u,.int 1 v] }).objs.size],_,_,H,rfl,
  I1.kept (t':=tk) fun b o e=>Heap.get?_push_of_some _ e,turn_range _ lo (hi - lo).toNat,?_,fun b hb=>?_,q⟩
 ·have e1:lo + ((0:Nat):Int) * 1=lo:=by simp
  have e2:(((hi - lo).toNat:Nat):Int) - ((0:Nat):Int)=Builtin.Range.rangeSize lo hi 1:=by rw [rangeSize_one];split <;> omega
  show IsRangeIter _ _ (lo + ((0:Nat):Int) * 1) ((((hi - lo).toNat:Nat):Int) - ((0:Nat):Int)) 1
  rw [e1,e2]
  exact Heap.get?_push_size _ rfl
 ·have e:b=(s.heap.push { cls:=.type "range",data:=.fields #[.int lo t,.int hi u,.int 1 v] }).objs.size:=by simpa using hb
  subst e
  exact I1.fpOk (Nat.le_refl _) (I1.hok.fresh (Nat.le_refl _))
noncomputable def iRng1(ta:TA):TI:=fun σ H R=>ta σ H fun vs H1=>∃ j:Int,vs=[.int j]∧-(2 ^ 62) ≤ j∧j < 2 ^ 62∧R (Itr 0 j.toNat) H1
theorem pi_range1{a:Expr}{ta:TA}{p pos:Pos}(hg:Gl X "range")(hm:X.mg "range" = none)(ha:PA X [a] ta)(hs:starEach [a] X.env=[(false,eval a X.env)]:=by rfl):PI X tg (.Call (.Name "range" p) [a] [] pos) (iRng1 ta):=by
 intro pins s σ H R I h
 refine Call_ (ld_blt I hg hm boot_range (PyProof.Rows.callWith_type1 (thn (ha pos pins s σ H _ I h) fun us s1 ⟨vs,H1,I1,r1,q1⟩=>?_) hs rfl))
 obtain ⟨j,e,q1,q2,q⟩:=q1
 subst e
 cases r1 with
 |cons r rr =>
  cases rr
  obtain ⟨t,rfl⟩:=r
  exact call_range_1 (range_it I1 (by omega) (by omega) q1 q2 (by simpa using q))
noncomputable def tFor(wi:TI)(g:TG)(tb:TS):TS:=fun D σ H=>wi σ H fun J H1=>∃ W:Nat→Nat→St→Hp→Prop,(∃ m,W 0 m σ H1)∧∀ i m σ H,W i m σ H →
 (J.stop i H∧D.nx σ H)∨(J.go i H∧∃ N:St→Hp→Prop,(∀ σ' H',N σ' H'→∃ m',m' < m∧W (i + 1) m' σ' H')∧∀ x H',J.yld i H x H'→g x σ H' fun σ2 H2=>tb { D with nx:=N,ct:=N,bk:=D.nx } σ2 H2)
noncomputable def pinsAt(fp:List Addr)(h:Heap):List (Addr×Obj):=fp.filterMap fun b=>(h.get? b).map fun o=>(b,o)
theorem mem_pinsAt{fp:List Addr}{h:Heap}{b:Addr}{o:Obj}(hb:b ∈ fp)(e:h.get? b=some o):(b,o) ∈ pinsAt fp h:=List.mem_filterMap.mpr ⟨b,hb,by rw [e];rfl⟩
theorem of_pinsAt{fp:List Addr}{h:Heap}{p:Addr×Obj}(hp:p ∈ pinsAt fp h):p.1 ∈ fp∧h.get? p.1=some p.2:=by
 obtain ⟨b,hb,e⟩:=List.mem_filterMap.mp hp
 cases q:h.get? b with
 |none=>rw [q] at e;cases e
 |some o =>
  rw [q] at e
  have e':(b,o)=p:=Option.some.inj e
  subst e'
  exact ⟨hb,q⟩
theorem Inv.pinned{pins:List (Addr×Obj)}{σ:St}{H:Hp}{s:Shared}{fp:List Addr}(I:Inv X pins σ H s)(hf:∀ b ∈ fp,FpOk X pins H b)(ho:∀ b ∈ fp,∃ o,s.heap.get? b=some o∧∀ v,o.data ≠ .cell v):Inv X (pins ++ pinsAt fp s.heap) σ H s :=
 I.pins_of fun p hp=>(List.mem_append.mp hp).elim (fun z=>I.pin p (List.mem_append_right _ z)) fun z=>by
  obtain ⟨hb,e⟩:=of_pinsAt z
  obtain ⟨f0,f1,f2,_⟩:=hf p.1 hb
  obtain ⟨o,e',d⟩:=ho p.1 hb
  rw [e] at e';cases e'
  exact ⟨e,f0,f1,f2,d⟩
theorem Inv.unpinned{pins pl:List (Addr×Obj)}{σ:St}{H:Hp}{s:Shared}(I:Inv X (pins ++ pl) σ H s):Inv X pins σ H s:=I.pins_of fun p hp=>I.pin p (List.mem_append_right _ (List.mem_append_left _ hp))
theorem ps_for{iter:Expr}{body:List Stmt}{wi:TI}{g:TG}{tb:TS}{pos:Pos}(hp:PassesOwn (model X.prog X.w) X.A X.env X.xe)(hc:X.calm=true)(hi:PI X tg iter wi)(hg:PG X tg g)(hb:PSs X body tb)
  (hs:∀ x,foldedSetIterable iter X.env x=pure x:=by intro _;rfl):PS X (.For tg iter body [] pos) (tFor wi g tb):=by
 intro pins s σ H D I h
 refine wpAny_For (thn (hi pins s σ H _ I h) fun v s1 h1=>thn h1 fun itv s2 h2=>?_) hs
 obtain ⟨it,fp,tn,J,H2,e,I2,T,st2,f2,W,⟨m0,w0⟩,turn⟩:=h2
 subst e
 have stat:∀ {H':Hp},(∀ b ∈ fp,H' b=none)→∀ b ∈ fp,FpOk X pins H' b:=fun hn b hb=>⟨hn b hb,(f2 b hb).2⟩
 refine codeAny_forLoop_any (fun n s'=>∃ i σ' H',Inv X pins σ' H' s'∧tn i s'.heap∧(∀ b ∈ fp,H' b=none)∧W i n σ' H') ?_ m0 ⟨0,σ,H2,I2,st2,fun b hb=>(f2 b hb).1,w0⟩
 rintro n s3 ⟨i,σ3,H3,I3,st3,fr3,w3⟩
 rcases turn i n σ3 H3 w3 with ⟨stop,qn⟩ | ⟨go,N,hN,step⟩
 ·refine wpAny_passesOwn hp (thn (T.done X rfl rfl rfl hc i pins s3 σ3 H3 X.xe I3 (stat fr3) st3 stop) fun r s4 zz0=>?_)
  obtain ⟨hr,I4⟩:=zz0
  subst hr
  exact wpAny_execs_nil ⟨σ3,H3,I4,qn⟩
 ·refine wpAny_passesOwn hp (thn (T.item X rfl rfl rfl hc i pins s3 σ3 H3 X.xe I3 (stat fr3) st3 go) fun r s4 zz0=>?_)
  obtain ⟨u,hr,h4⟩:=zz0
  subst hr
  refine wpAny_passesOwn hp (thn h4 fun _ s5 zz0=>?_)
  obtain ⟨x,H5,I5,r5,y5,st5,fr5⟩:=zz0
  have I5':=I5.pinned (stat fr5) (T.obj _ _ st5)
  refine wpAny_passesOwn hp (thn (hg _ s5 σ3 H5 x u _ I5' r5 (step x H5 y5)) fun _ s6 zz0=>?_)
  obtain ⟨σ6,H6,I6,q6⟩:=zz0
  refine wpAny_passesOwn hp (thn (hb _ s6 σ6 H6 _ I6 q6) fun f s7 q7=>?_)
  have again:∀ {σ7:St} {H7:Hp},Inv X (pins ++ pinsAt fp s5.heap) σ7 H7 s7→N σ7 H7→∃ m,m < n∧∃ i σ' H',Inv X pins σ' H' s7∧tn i s7.heap∧(∀ b ∈ fp,H' b=none)∧W i m σ' H':=fun {σ7 H7} I7 n7=>by
   obtain ⟨m',hm,w7⟩:=hN σ7 H7 n7
   refine ⟨m',hm,i + 1,σ7,H7,I7.unpinned,T.keep _ _ _ st5 fun b hb o e=>(I7.pin (b,o) (List.mem_append_right _ (List.mem_append_right _ (mem_pinsAt hb e)))).1,fun b hb=>?_,w7⟩
   obtain ⟨o,e,d⟩:=T.obj _ _ st5 b hb
   exact (I7.pin (b,o) (List.mem_append_right _ (List.mem_append_right _ (mem_pinsAt hb e)))).2.1
  cases f with
  |next=>obtain ⟨σ7,H7,I7,n7⟩:=q7;exact again I7 n7
  |cont=>obtain ⟨σ7,H7,I7,n7⟩:=q7;exact again I7 n7
  |brk=>obtain ⟨σ7,H7,I7,q7⟩:=q7;exact ⟨σ7,H7,I7.unpinned,q7⟩
  |ret v=>obtain ⟨x7,σ7,H7,I7,r7,q7⟩:=q7;exact ⟨x7,σ7,H7,I7.unpinned,r7,q7⟩
end
end L2
namespace L2
open PySem PySem.Spec PyProof.Rows
noncomputable abbrev R2:=V→V→Hp→VK→Prop
noncomputable def OpR(X:Cx)(f:Value→Value→Sem Value)(r:R2):Prop :=
 ∀ (pins:List (Addr×Obj)) (s:Shared) (σ:St) (H:Hp) (x y:V) (v u:Value) (Q:VK),Inv X pins σ H s→RelV x v→RelV y u→r x y H Q →
  wpAny (model X.prog X.w) X.A (f v u) (EP X pins σ Q) X.xe s
noncomputable def UnR(X:Cx)(f:Value→Sem Value)(r:V→Hp→VK→Prop):Prop :=
 ∀ (pins:List (Addr×Obj)) (s:Shared) (σ:St) (H:Hp) (x:V) (v:Value) (Q:VK),Inv X pins σ H s→RelV x v→r x H Q →
  wpAny (model X.prog X.w) X.A (f v) (EP X pins σ Q) X.xe s
noncomputable def CallR(X:Cx)(f:Value)(r:List V→Hp→VK→Prop):Prop :=
 ∀ (pins:List (Addr×Obj)) (s:Shared) (σ:St) (H:Hp) (xs:List V) (us:List Value) (Q:VK),Inv X pins σ H s→Vals xs us→r xs H Q →
  wpAny (model X.prog X.w) X.A (call f us) (EP X pins σ Q) X.xe s
noncomputable def TruR(X:Cx)(r:V→Hp→(Bool→Hp→Prop)→Prop):Prop :=
 ∀ (pins:List (Addr×Obj)) (s:Shared) (σ:St) (H:Hp) (x:V) (v:Value) (Q:Bool→Hp→Prop),Inv X pins σ H s→RelV x v→r x H Q →
  wpAny (model X.prog X.w) X.A (truthy v) (TP X pins σ Q) X.xe s
noncomputable def tOp(r:R2)(ta tb:TE):TE:=fun σ H Q=>ta σ H fun x H1=>tb σ H1 fun y H2=>r x y H2 Q
noncomputable def tUn(r:V→Hp→VK→Prop)(ta:TE):TE:=fun σ H Q=>ta σ H fun x H1=>r x H1 Q
noncomputable def rI(C:Int→Int→Prop)(g:Int→Int→V):R2:=fun x y H Q=>∃ i j,x = .int i∧y = .int j∧C i j∧Q (g i j) H
noncomputable def rI0(g:Int→Int→V):R2:=fun x y H Q=>∃ i j,x = .int i∧y = .int j∧Q (g i j) H
noncomputable def rU(g:Int→V):V→Hp→VK→Prop:=fun x H Q=>∃ i,x = .int i∧Q (g i) H
section
variable {X:Cx} {a b c:Expr} {ta tb tc:TE} {pos:Pos}
theorem binT(ha:PE X a ta)(hb:PE X b tb){pins:List (Addr×Obj)}{s:Shared}{σ:St}{H:Hp}{R:V→V→Hp→Prop}(I:Inv X pins σ H s)
  (h:ta σ H fun x H1=>tb σ H1 fun y H2=>R x y H2) {Q:Value→Shared→Prop} {f:Value→Value→Sem Value}
  (hf:∀ v u s2 x y H2,Inv X pins σ H2 s2→RelV x v→RelV y u→R x y H2→wpAny (model X.prog X.w) X.A (f v u) Q X.xe s2) :
  wpAny (model X.prog X.w) X.A (eval a X.env) (fun v s₁=>wpAny (model X.prog X.w) X.A (eval b X.env) (fun u s₂=>wpAny (model X.prog X.w) X.A (f v u) Q X.xe s₂) X.xe s₁) X.xe s:=by
 refine thn (ha pins s σ H _ I h) fun v s1 zz0=>?_
 obtain ⟨x,H1,I1,r1,q1⟩:=zz0
 refine thn (hb pins s1 σ H1 _ I1 q1) fun u s2 zz0=>?_
 obtain ⟨y,H2,I2,r2,q2⟩:=zz0
 exact hf v u s2 x y H2 I2 r1 r2 q2
theorem pe_op{op:Operator}{r:R2}(ho:OpR X (binaryOp op) r)(ha:PE X a ta)(hb:PE X b tb):PE X (.BinOp a op b pos) (tOp r ta tb):=by
 intro pins s σ H Q I h
 exact wpAny_BinOp (binT ha hb I h fun v u s2 x y H2 I2 rx ry q=>ho pins s2 σ H2 x y v u Q I2 rx ry q)
theorem pe_un{op:UnaryOp}{r:V→Hp→VK→Prop}(ho:UnR X (unaryOp op) r)(ha:PE X a ta):PE X (.UnaryOp op a pos) (tUn r ta):=by
 intro pins s σ H Q I h
 exact UnaryOp_ (thn (ha pins s σ H _ I h) fun v s1 ⟨x,H1,I1,r1,q1⟩=>ho pins s1 σ H1 x v Q I1 r1 q1)
theorem opI{f:Value→Value→Sem Value}{C:Int→Int→Prop}{g:Int→Int→Int}
  (rule:∀ (i j:Int) (t u:Tok) (s:Shared) (Q:Value→Shared→Prop) (E:Value→Shared→Prop),C i j→Q (.int (g i j) s.toks) { s with toks:=s.toks + 1 }→wpAny (model X.prog X.w) X.A (f (.int i t) (.int j u)) Q E s) :
  OpR X f (rI C fun i j=>.int (g i j)):=by
 intro pins s σ H x y v u Q I rx ry h
 obtain ⟨i,j,rfl,rfl,hc,q⟩:=h
 obtain ⟨t,rfl⟩:=rx
 obtain ⟨t',rfl⟩:=ry
 exact rule i j t t' s _ _ hc ⟨.int (g i j),H,I.tok _,⟨_,rfl⟩,q⟩
theorem opI0{f:Value→Value→Sem Value}{g:Int→Int→Int}
  (rule:∀ (i j:Int) (t u:Tok) (s:Shared) (Q:Value→Shared→Prop) (E:Value→Shared→Prop),Q (.int (g i j) s.toks) { s with toks:=s.toks + 1 }→wpAny (model X.prog X.w) X.A (f (.int i t) (.int j u)) Q E s) :
  OpR X f (rI0 fun i j=>.int (g i j)):=by
 intro pins s σ H x y v u Q I rx ry h
 obtain ⟨i,j,rfl,rfl,q⟩:=h
 obtain ⟨t,rfl⟩:=rx
 obtain ⟨t',rfl⟩:=ry
 exact rule i j t t' s _ _ ⟨.int (g i j),H,I.tok _,⟨_,rfl⟩,q⟩
theorem opB0{f:Value→Value→Sem Value}{g:Int→Int→Bool}
  (rule:∀ (i j:Int) (t u:Tok) (s:Shared) (Q:Value→Shared→Prop) (E:Value→Shared→Prop),Q (.bool (g i j)) s→wpAny (model X.prog X.w) X.A (f (.int i t) (.int j u)) Q E s) :
  OpR X f (rI0 fun i j=>.bl (g i j)):=by
 intro pins s σ H x y v u Q I rx ry h
 obtain ⟨i,j,rfl,rfl,q⟩:=h
 obtain ⟨t,rfl⟩:=rx
 obtain ⟨t',rfl⟩:=ry
 exact rule i j t t' s _ _ ⟨.bl (g i j),H,I,rfl,q⟩
noncomputable def CPow(i j:Int):Prop:=0 ≤ j∧j ≤ 1000000∧i.natAbs < 2 ^ 64
theorem two_pow_nn(k:Nat):(0:Int) ≤ 2 ^ k:=by
 rw [two_pow_cast]
 exact Int.natCast_nonneg _
theorem op_add:OpR X (binaryOp .Add) (rI0 fun i j=>.int (i + j)):=opI0 fun _ _ _ _ _ _ _ q=>add_int q
theorem op_sub:OpR X (binaryOp .Sub) (rI0 fun i j=>.int (i - j)):=opI0 fun _ _ _ _ _ _ _ q=>sub_int q
theorem op_mod:OpR X (binaryOp .Mod) (rI (fun _ j=>0 < j) fun i j=>.int (i % j)):=opI fun i j _ _ _ _ _ hc q=>by
 have h1:(0:Int) < j:=hc
 exact mod_int' (by omega) (by rw [Int.fmod_eq_emod_of_nonneg i (by omega)];exact q)
theorem op_pow:OpR X (binaryOp .Pow) (rI CPow fun i j=>.int (i ^ j.toNat)):=opI fun _ _ _ _ _ _ _ hc q=>pow_int_small hc.1 hc.2.1 hc.2.2 q
theorem op_shl:OpR X (binaryOp .LShift) (rI CPow fun i j=>.int (i * 2 ^ j.toNat)):=opI fun _ _ _ _ _ _ _ hc q=>lshift_int_small hc.1 hc.2.1 hc.2.2 q
theorem op_shr:OpR X (binaryOp .RShift) (rI (fun _ j=>0 ≤ j) fun i j=>.int (i / 2 ^ j.toNat)):=opI fun i j _ _ _ _ _ hc q =>
 rshift_int hc (by rw [Int.fdiv_eq_ediv_of_nonneg i (two_pow_nn _)];exact q)
theorem op_and:OpR X (binaryOp .BitAnd) (rI0 fun i j=>.int (Builtin.bitAnd i j)):=opI0 fun _ _ _ _ _ _ _ q=>and_int q
theorem op_or:OpR X (binaryOp .BitOr) (rI0 fun i j=>.int (Builtin.bitOr i j)):=opI0 fun _ _ _ _ _ _ _ q=>or_int q
theorem unI{f:Value→Sem Value}{g:Int→Int}
  (rule:∀ (i:Int) (t:Tok) (s:Shared) (Q:Value→Shared→Prop) (E:Value→Shared→Prop),Q (.int (g i) s.toks) { s with toks:=s.toks + 1 }→wpAny (model X.prog X.w) X.A (f (.int i t)) Q E s) :
  UnR X f (rU fun i=>.int (g i)):=by
 intro pins s σ H x v Q I rx h
 obtain ⟨i,rfl,q⟩:=h
 obtain ⟨t,rfl⟩:=rx
 exact rule i t s _ _ ⟨.int (g i),H,I.tok _,⟨_,rfl⟩,q⟩
theorem un_neg:UnR X (unaryOp .USub) (rU fun i=>.int (-i)):=unI fun _ _ _ _ _ q=>neg_int q
end
section
variable {X:Cx} {a b c:Expr} {ta tb tc:TE} {pos:Pos}
theorem fin_bl{pins:List (Addr×Obj)}{σ:St}{H:Hp}{s:Shared}{Q:VK}{k k':Bool}(I:Inv X pins σ H s)(q:Q (.bl k) H)(e:k=k'):EP X pins σ Q (.bool k') s:=by
 subst e
 exact ⟨.bl k,H,I,rfl,q⟩
theorem op_lt:OpR X (compareOp .Lt) (rI0 fun i j=>.bl (decide (i < j))):=opB0 fun _ _ _ _ _ _ _ q=>lt_int q
theorem op_le:OpR X (compareOp .LtE) (rI0 fun i j=>.bl (decide (i ≤ j))):=opB0 fun _ _ _ _ _ _ _ q=>le_int q
theorem op_gt:OpR X (compareOp .Gt) (rI0 fun i j=>.bl (decide (j < i))):=opB0 fun _ _ _ _ _ _ _ q=>gt_int q
theorem op_isN:OpR X (compareOp .Is) (fun x y H Q=>y = .non∧Q (.bl (decide (x = .non))) H):=by
 intro pins s σ H x y v u Q I rx ry h
 obtain ⟨rfl,q⟩:=h
 cases ry
 refine is_none_gen (fin_bl I q ?_)
 cases x <;> first
  |(cases rx;rfl)
  |(obtain ⟨t,rfl⟩:=rx;rfl)
theorem OpR.or{f:Value→Value→Sem Value}{r r':R2}(h:OpR X f r)(h':OpR X f r'):OpR X f (fun x y H Q=>r x y H Q∨r' x y H Q):=by
 intro pins s σ H x y v u Q I rx ry q
 rcases q with q | q
 ·exact h pins s σ H x y v u Q I rx ry q
 ·exact h' pins s σ H x y v u Q I rx ry q
theorem nomark(b:Expr){op:CmpOp}(h:op ≠ .In:=by decide)(h2:op ≠ .NotIn:=by decide):behindInMarks op b=false:=by
 have e1:(op == CmpOp.In)=false:=by cases op <;> first | rfl | exact absurd rfl h
 have e2:(op == CmpOp.NotIn)=false:=by cases op <;> first | rfl | exact absurd rfl h2
 cases b with
 |Set elts k p =>
  show (k == 0 && (op == .In || op == .NotIn) && elts.all (constantsAlone 8))=false
  rw [e1,e2]
  cases k == 0 <;> rfl
 |_=>rfl
theorem pe_cmpR{op:CmpOp}{r:R2}(ho:OpR X (compareOp op) r)(ha:PE X a ta)(hb:PE X b tb)(hm:behindInMarks op b=false):PE X (.Compare a [op] [b] pos) (tOp r ta tb):=by
 intro pins s σ H Q I h
 exact wpAny_Compare1 (binT ha hb I h fun v u s2 x y H2 I2 rx ry q=>ho pins s2 σ H2 x y v u Q I2 rx ry q) hm
noncomputable def tTest(t:TE):TT:=fun σ H Q=>t σ H fun x H'=>∃ k,x = .bl k∧Q k H'
theorem pt_cmpR{op:CmpOp}{r:R2}(ho:OpR X (compareOp op) r)(ha:PE X a ta)(hb:PE X b tb)(hm:behindInMarks op b=false):PT X (.Compare a [op] [b] pos) (tTest (tOp r ta tb)):=by
 intro pins s σ H Q I h
 refine wpAny_isTrue_Compare1 (thn (ha pins s σ H _ I h) fun v s1 ⟨x,H1,I1,r1,q1⟩=>thn (hb pins s1 σ H1 _ I1 q1) fun u s2 ⟨y,H2,I2,r2,q2⟩ =>
  thn (ho pins s2 σ H2 x y v u _ I2 r1 r2 q2) fun c s3 ⟨z,H3,I3,r3,k,e,q3⟩=>?_) hm
 subst e
 cases r3
 exact wpAny_truthy_bool ⟨H3,I3,q3⟩
noncomputable def tChain(r r':R2)(ta tb tc:TE):TE:=fun σ H Q=>ta σ H fun x H1=>tb σ H1 fun y H2=>r x y H2 fun z H3=>∃ k,z = .bl k ∧
 (if k=true then tc σ H3 fun w' H4=>r' y w' H4 Q else Q (.bl false) H3)
theorem pe_chain{op op':CmpOp}{r r':R2}(ho:OpR X (compareOp op) r)(ho':OpR X (compareOp op') r')(ha:PE X a ta)(hb:PE X b tb)(hc:PE X c tc)
  (hm:lastMarks [op,op'] [b,c]=false:=by with_unfolding_all rfl):PE X (.Compare a [op,op'] [b,c] pos) (tChain r r' ta tb tc):=by
 intro pins s σ H Q I h
 refine Compare_chain (thn (ha pins s σ H _ I h) fun v s1 ⟨x,H1,I1,r1,q1⟩=>chain_link (thn (hb pins s1 σ H1 _ I1 q1) fun u s2 ⟨y,H2,I2,r2,q2⟩ =>
  thn (ho pins s2 σ H2 x y v u _ I2 r1 r2 q2) fun d s3 ⟨z,H3,I3,r3,k,e,q3⟩=>?_)) hm
 subst e
 cases r3
 refine wpAny_truthy_bool ?_
 cases k with
 |false=>exact ite_ff ⟨.bl false,H3,I3,rfl,q3⟩
 |true=>exact ite_tt (chain_last (thn (hc pins s3 σ H3 _ I3 q3) fun w' s4 ⟨z',H4,I4,r4,q4⟩=>ho' pins s4 σ H4 y z' u w' Q I4 r2 r4 q4))
theorem pt_chain{op op':CmpOp}{r r':R2}(ho:OpR X (compareOp op) r)(ho':OpR X (compareOp op') r')(ha:PE X a ta)(hb:PE X b tb)(hc:PE X c tc)
  (hm:lastMarks [op,op'] [b,c]=false:=by with_unfolding_all rfl):PT X (.Compare a [op,op'] [b,c] pos) (tTest (tChain r r' ta tb tc)):=by
 intro pins s σ H Q I h
 refine isTrue_chain (thn (ha pins s σ H _ I h) fun v s1 ⟨x,H1,I1,r1,q1⟩=>test_link (thn (hb pins s1 σ H1 _ I1 q1) fun u s2 ⟨y,H2,I2,r2,q2⟩ =>
  thn (ho pins s2 σ H2 x y v u _ I2 r1 r2 q2) fun d s3 ⟨z,H3,I3,r3,k,e,q3⟩=>?_)) hm
 subst e
 cases r3
 refine wpAny_truthy_bool ?_
 cases k with
 |false =>
  obtain ⟨k',e',q'⟩:=q3
  cases e'
  exact ite_ff ⟨H3,I3,q'⟩
 |true =>
  refine ite_tt (test_last (thn (hc pins s3 σ H3 _ I3 q3) fun w' s4 ⟨z',H4,I4,r4,q4⟩=>thn (ho' pins s4 σ H4 y z' u w' _ I4 r2 r4 q4) fun d' s5 zz0=>?_))
  obtain ⟨z2,H5,I5,r5,k2,e2,q5⟩:=zz0
  subst e2
  cases r5
  exact wpAny_truthy_bool ⟨H5,I5,q5⟩
noncomputable def TruV(K:PySem.W.Frag)(x:V)(H:Hp)(k:Bool):Prop :=
 match x with
 |.non=>k=false
 |.bl b=>k=b
 |.int i=>k=(i != 0)
 |.str y=>y.length ≤ sizeLine∧k=((y.length:Int) != 0)
 |.byt y=>y.size ≤ sizeLine∧k=((y.size:Int) != 0)
 |.ref p=>(∃ xs,SqL K H p xs∧k = !xs.isEmpty)∨(∃ xs,SqT K H p xs∧k = !xs.isEmpty)∨∃ kvs,H p=some (.dK kvs)∧k = !kvs.isEmpty
 |_=>False
theorem isEmpty_kv{κ:Type}{kvs:List (κ×V)}{vs:List (κ×Value)}(r:KV kvs vs):(!vs.isEmpty) = !kvs.isEmpty:=by
 cases r <;> rfl
theorem isEmpty_of{xs:List V}{its:List Value}(r:Vals xs its):(!its.toArray.isEmpty) = !xs.isEmpty:=by
 cases r <;> simp
theorem line63:(sizeLine:Nat) < 2 ^ 63:=by rw [sizeLine_eq];decide
theorem tru_ok:TruR X (fun x H Q=>∃ k,TruV X.K x H k∧Q k H):=by
 intro pins s σ H x v Q I rx h
 obtain ⟨k,e,q⟩:=h
 have hl:=line63
 have hs:sizeLine=16777216:=sizeLine_eq
 cases x with
 |non =>
  cases rx
  have e':k=false:=e
  subst e'
  exact truthy_none ⟨H,I,q⟩
 |bl b =>
  cases rx
  have e':k=b:=e
  subst e'
  exact wpAny_truthy_bool ⟨H,I,q⟩
 |int i =>
  obtain ⟨t,rfl⟩:=rx
  have e':k=(i != 0):=e
  subst e'
  exact PySem.P.truthy_int ⟨H,I,q⟩
 |str y =>
  obtain ⟨t,rfl⟩:=rx
  obtain ⟨hy,e'⟩:y.length ≤ sizeLine∧k=((y.length:Int) != 0):=e
  subst e'
  exact PySem.P.truthy_str (by omega) ⟨H,I.tok _,q⟩
 |byt y =>
  obtain ⟨t,rfl⟩:=rx
  obtain ⟨hy,e'⟩:y.size ≤ sizeLine∧k=((y.size:Int) != 0):=e
  subst e'
  exact PySem.W.truthy_bytes (by omega) ⟨H,I.tok _,q⟩
 |ref p =>
  cases rx
  have e':(∃ xs,SqL X.K H p xs∧k = !xs.isEmpty)∨(∃ xs,SqT X.K H p xs∧k = !xs.isEmpty)∨∃ kvs,H p=some (.dK kvs)∧k = !kvs.isEmpty:=e
  rcases e' with ⟨xs,hx,e'⟩ | ⟨xs,hx,e'⟩ | ⟨kvs,hx,e'⟩
  ·subst e'
   obtain ⟨its,r,pl,hz⟩:=I.list hx
   have hlen:=r.length
   exact wpAny_truthy_list pl.isList (by simp only [List.size_toArray];omega) ⟨H,I.tok _,by rw [isEmpty_of r];exact q⟩
  ·subst e'
   obtain ⟨its,r,pl,hz⟩:=I.tuple hx
   have hlen:=r.length
   exact truthy_tuple pl (by simp only [List.size_toArray];omega) ⟨H,I.tok _,by rw [isEmpty_of r];exact q⟩
  ·subst e'
   obtain ⟨hz,hS,vs,r,m⟩:kvs.length ≤ sizeLine∧(p == sysModules)=false∧∃ vs,KV kvs vs∧s.heap.DictOf (mixKind X.prog X.w) p vs:=I.hok p _ hx
   have hlen:kvs.length=vs.length:=Paired.length r
   exact wpAny_truthy_dict hS m (by omega) ⟨H,I.tok _,by rw [isEmpty_kv r];exact q⟩
 |_=>exact (show False from e).elim
theorem pt_truth(ha:PE X a ta)(he:∀ whole,isTrue a X.env whole=(do let v ← whole;standAt a.pos;holding [v] (truthy v))) :
  PT X a (fun σ H Q=>ta σ H fun x H'=>∃ k,TruV X.K x H' k∧Q k H'):=by
 intro pins s σ H Q I h
 exact isTrue_plain (thn (ha pins s σ H _ I h) fun v s1 ⟨x,H1,I1,r1,q1⟩=>tru_ok pins s1 σ H1 x v Q I1 r1 q1) (he _)
theorem op_add_str:OpR X (binaryOp .Add) (fun x y H Q=>∃ i j,x = .str i∧y = .str j∧i.length + j.length ≤ sizeLine∧Q (.str (i ++ j)) H):=by
 intro pins s σ H x y v u Q I rx ry h
 obtain ⟨i,j,rfl,rfl,hz,q⟩:=h
 obtain ⟨t,rfl⟩:=rx
 obtain ⟨t',rfl⟩:=ry
 exact add_str (fun t' tk=>⟨.str (i ++ j),H,I.tok _,⟨_,rfl⟩,q⟩) hz
theorem vals1{x:V}{us:List Value}(r:Vals [x] us):∃ u,us=[u]∧RelV x u:=by
 cases r with
 |cons r1 r2=>cases r2;exact ⟨_,rfl,r1⟩
theorem vals2{x y:V}{us:List Value}(r:Vals [x,y] us):∃ u w',us=[u,w']∧RelV x u∧RelV y w':=by
 cases r with
 |cons r1 r2 =>
  cases r2 with
  |cons r3 r4=>cases r4;exact ⟨_,_,rfl,r1,r3⟩
theorem call_min2(hc:X.calm=true):CallR X (.builtin "min") (fun xs H Q=>∃ i j,xs=[.int i,.int j]∧Q (.int (if j < i then j else i)) H):=by
 intro pins s σ H xs us Q I r h
 obtain ⟨i,j,rfl,q⟩:=h
 obtain ⟨u,w',rfl,⟨t,rfl⟩,⟨t',rfl⟩⟩:=vals2 r
 refine min_two_ints (I.ok.hd hc) fun h' tk k=>⟨_,H,I.kept k,?_,q⟩
 by_cases hj:j < i
 ·rw [if_pos hj,if_pos hj];exact ⟨_,rfl⟩
 ·rw [if_neg hj,if_neg hj];exact ⟨_,rfl⟩
theorem call_int1:CallR X (.type "int") (fun xs H Q=>(∃ i,xs=[.int i]∧Q (.int i) H)∨∃ k,xs=[.bl k]∧Q (.int (if k then 1 else 0)) H):=by
 intro pins s σ H xs us Q I r h
 rcases h with ⟨i,rfl,q⟩ | ⟨k,rfl,q⟩
 ·obtain ⟨u,rfl,t,rfl⟩:=vals1 r
  exact call_int_int ⟨.int i,H,I,⟨_,rfl⟩,q⟩
 ·obtain ⟨u,rfl,r1⟩:=vals1 r
  cases r1
  exact call_int_bool ⟨.int (if k then 1 else 0),H,I.tok _,⟨_,rfl⟩,q⟩
noncomputable def LenV(K:PySem.W.Frag)(x:V)(H:Hp)(n:Nat):Prop :=
 match x with
 |.str y=>y.length ≤ sizeLine∧n=y.length
 |.byt y=>y.size ≤ sizeLine∧n=y.size
 |.ref p=>(∃ xs,SqL K H p xs∧n=xs.length)∨∃ xs,SqT K H p xs∧n=xs.length
 |_=>False
theorem call_len:CallR X (.builtin "len") (fun xs H Q=>∃ x n,xs=[x]∧LenV X.K x H n∧Q (.int n) H):=by
 intro pins s σ H xs us Q I r h
 obtain ⟨x,n,rfl,e,q⟩:=h
 obtain ⟨u,rfl,rx⟩:=vals1 r
 have hl:=line63
 have hs:sizeLine=16777216:=sizeLine_eq
 cases x with
 |str y =>
  obtain ⟨t,rfl⟩:=rx
  obtain ⟨hy,e'⟩:y.length ≤ sizeLine∧n=y.length:=e
  subst e'
  exact len_str (by omega) ⟨.int _,H,I.tok _,⟨_,rfl⟩,q⟩
 |byt y =>
  obtain ⟨t,rfl⟩:=rx
  obtain ⟨hy,e'⟩:y.size ≤ sizeLine∧n=y.size:=e
  subst e'
  exact PySem.W.len_bytes (by omega) ⟨.int _,H,I.tok _,⟨_,rfl⟩,q⟩
 |ref p =>
  cases rx
  have e':(∃ xs,SqL X.K H p xs∧n=xs.length)∨∃ xs,SqT X.K H p xs∧n=xs.length:=e
  rcases e' with ⟨xs,hx,e'⟩ | ⟨xs,hx,e'⟩
  ·subst e'
   obtain ⟨its,r',pl,hz⟩:=I.list hx
   have hlen:=r'.length
   exact Calls.call_len_list pl.isList (by simp only [List.size_toArray];omega) ⟨.int xs.length,H,I.tok _,⟨_,by simp only [List.size_toArray];rw [hlen]⟩,q⟩
  ·subst e'
   obtain ⟨its,r',pl,hz⟩:=I.tuple hx
   have hlen:=r'.length
   exact len_tuple pl (by simp only [List.size_toArray];omega) ⟨.int xs.length,H,I.tok _,⟨_,by simp only [List.size_toArray];rw [hlen]⟩,q⟩
 |_=>exact (show False from e).elim
end
end L2
namespace L2
open PySem PySem.Spec PyProof.Rows
structure ObjM(h:Heap)(x dx C:Addr)(mA:Str→Option Value):Prop where
 obj:h.get? x=some (PySem.W.instObj C dx)
 ns:h.Ns1 dx mA
 ne:dx ≠ x
theorem lookIn_ns{h:Heap}{dx:Addr}{mA:Str→Option Value}(n:h.Ns1 dx mA):∃ od,h.get? dx=some od∧∀ name,PySem.W.lookIn name od=some (mA name):=by
 obtain ⟨o,es,ep,ho,hd,hk,_,hm⟩:=n
 refine ⟨o,ho,fun name=>?_⟩
 have e:=hm name
 unfold nsFind findBy at e
 rw [← Array.find?_toList] at e
 unfold PySem.W.lookIn
 rw [hd]
 dsimp only
 split
 ·rename_i y q
  rw [q] at e
  exact congrArg some e
 ·rename_i q
  rw [q] at e
  have a:es.toList.any (·.refKey)=false:=by
   rw [List.any_eq_false]
   intro y hy
   obtain ⟨z,t,hkey⟩:=hk y (Array.mem_toList_iff.mp hy)
   simp [DictEntry.refKey,hkey]
  have a':¬ es.toList.any (·.refKey)=true:=by rw [a];exact Bool.false_ne_true
  rw [if_neg a']
  exact congrArg some e
theorem ObjM.look{h:Heap}{x dx C:Addr}{mA:Str→Option Value}(I:ObjM h x dx C mA):∃ od,PySem.W.InstAt h x (PySem.W.instObj C dx) C (some od)∧∀ name,PySem.W.lookIn name od=some (mA name) :=
 let ⟨od,ho,hl⟩:=lookIn_ns I.ns
 ⟨od,⟨I.obj,rfl,rfl,ho⟩,hl⟩
section
variable {prog:Program} {w:World} {A:Around} {E:Value→Shared→Prop} {s:Shared} {K:PySem.W.Frag} {x dx C f:Addr} {mA:Str→Option Value} {name:Str} {v:Value}
end
theorem RelO.some_of{v:V}{o:Option Value}(r:RelO (some v) o):∃ u,o=some u∧RelV v u:=by
 cases o with
 |none=>exact (show False from r).elim
 |some u=>exact ⟨u,rfl,r⟩
section
variable {P:Program} {w:World} {H H':Hp} {h h':Heap} {a C dx:Addr} {fs fs':List (Str×V)}
theorem ins_get(hok:HOk P w H h)(e:H a=some (.ins C dx fs)):∃ mA,ObjM h a dx C mA∧(∀ f,RelO (fs.lookup f) (mA f))∧PySem.Within mA (fs.map (·.1))∧fs.length ≤ 1000∧H dx=some (.own a):=by
 obtain ⟨d,z,ne,ob,mA,n,r,q⟩:=(show ObjOk P w H h a (.ins C dx fs) from hok a _ e)
 exact ⟨mA,⟨ob,n,ne⟩,r,q,z,d⟩
end
structure Cls(K:PySem.W.Frag)(C:Addr):Prop where
 pg:PySem.W.plainGet K C Str.empty=true
 hd:PySem.W.hasDictIn K C=true
 po:PySem.W.plainOver K C=true
 sa:PySem.W.findIn K (.ref C) "__setattr__" = some (some (.builtin "object.__setattr__"))
theorem Cls.get{K:PySem.W.Frag}{C:Addr}(c:Cls K C)(f:Str):PySem.W.plainGet K C f=true:=c.pg
noncomputable def NoAttr(K:PySem.W.Frag)(C:Addr)(f:Str):Prop:=PySem.W.findIn K (.ref C) f=some none
section
variable {X:Cx} {pins:List (Addr×Obj)} {σ:St} {H:Hp} {s:Shared} {a C dx:Addr} {fs:List (Str×V)} {f:Str} {v:V} {A:Around} {E:Value→Shared→Prop}
theorem attr_of{prog:Program}{w:World}{env:Env}{e:Expr}{f:Str}{pos:Pos}{s:Shared}{Q:Value→Shared→Prop}(hb:attributeBase e f env (eval e env)=eval e env)
  (h:wpAny (model prog w) A (eval e env) (fun o s₁=>wpAny (model prog w) A (getAttr o f true) Q E s₁) E s):wpAny (model prog w) A (eval (.Attribute e f pos) env) Q E s :=
 Attribute_any_ h (by rw [arm_eval_Attribute,hb])
end
section
variable {X:Cx} {o e value:Expr} {f:Str} {pos pos' tpos:Pos} {ta tv:TE}
end
section
variable {X:Cx} {pins:List (Addr×Obj)} {σ:St} {H:Hp} {s:Shared} {A:Around} {E:Value→Shared→Prop} {Q:Value→Shared→Prop} {c:Value} {b:Bool}
inductive TyOf(K:PySem.W.Frag)(H:Hp):V→Value→Prop where
 |non:TyOf K H .non (.type "NoneType")
 |bl (x:Bool):TyOf K H (.bl x) (.type "bool")
 |int (i:Int):TyOf K H (.int i) (.type "int")
 |str (x:Str):TyOf K H (.str x) (.type "str")
 |flt (x:UInt64):TyOf K H (.flt x) (.type "float")
 |lst {a:Addr} {xs:List V} (e:H a=some (.lst xs)):TyOf K H (.ref a) (.type "list")
 |frz {a:Addr} {o:Obj} {xs:List V} (e:H a=some (.frz o (.lst xs))):TyOf K H (.ref a) (.type "list")
 |tup {a:Addr} {xs:List V} (e:H a=some (.tup xs)):TyOf K H (.ref a) (.type "tuple")
 |dK {a:Addr} {kvs:List (Key×V)} (e:H a=some (.dK kvs)):TyOf K H (.ref a) (.type "dict")
 |dT {a:Addr} {kvs:List (List Key×V)} (e:H a=some (.dT kvs)):TyOf K H (.ref a) (.type "dict")
 |ins {a C dx:Addr} {fs:List (Str×V)} (e:H a=some (.ins C dx fs)) (cl:Cls K C) (ha:PySem.W.findIn K (.ref C) "__class__" = some (some (.builtin "object.__class__")))
   (hn:PySem.W.specialIn K (.builtin "object.__class__") "__get__" = some (some (.builtin "getset_descriptor.__get__"))) (htk:PySem.W.takesIn K (.builtin "object.__class__")=some true)
   (hm:PySem.W.mroIn K C (.type "object")=some true):TyOf K H (.ref a) (.ref C)
theorem isinst_ok{x:V}{u t:Value}(I:Inv X pins σ H s)(rx:RelV x u)(ty:TyOf X.K H x t)(e:PySem.W.kitOne X.K t c=some b)(h:∀ tk,Q (.bool b) { s with toks:=tk }) :
  wpAny (model X.prog X.w) A (call (.builtin "isinstance") [u,c]) Q E s:=by
 cases ty with
 |non=>cases (show u=Value.none from rx);exact PySem.W.kia_one PySem.W.kitx_none I.kIn True.intro e (fun z=>nomatch z) h
 |bl y=>cases (show u=Value.bool y from rx);exact PySem.W.kia_one PySem.W.kitx_bool I.kIn True.intro e (fun z=>nomatch z) h
 |int i=>obtain ⟨t,q⟩:=(show ∃ t,u=Value.int i t from rx);cases q;exact PySem.W.kia_one PySem.W.kitx_int I.kIn True.intro e (fun z=>nomatch z) h
 |str y=>obtain ⟨t,q⟩:=(show ∃ t,u=Value.str y t from rx);cases q;exact PySem.W.kia_one PySem.W.kitx_str I.kIn True.intro e (fun z=>nomatch z) h
 |flt y=>obtain ⟨t,q⟩:=(show ∃ t,u=Value.float y t from rx);cases q;exact PySem.W.kia_one PySem.W.kitx_float I.kIn True.intro e (fun z=>nomatch z) h
 |@lst a xs ea =>
  cases (show u=Value.ref a from rx)
  obtain ⟨_,_,n,_,h1⟩:=(show ObjOk X.prog X.w H s.heap a (.lst xs) from I.hok a _ ea)
  exact PySem.W.kia_one PySem.W.kitx_list I.kIn ⟨_,h1,rfl⟩ e (fun z=>nomatch z) h
 |@frz a ob xs ea =>
  cases (show u=Value.ref a from rx)
  obtain ⟨_,_,_,n,_,h1⟩:=(show ObjOk X.prog X.w H s.heap a (.frz ob (.lst xs)) from I.hok a _ ea)
  exact PySem.W.kia_one PySem.W.kitx_list I.kIn ⟨_,h1,rfl⟩ e (fun z=>nomatch z) h
 |@tup a xs ea =>
  cases (show u=Value.ref a from rx)
  obtain ⟨_,_,_,p⟩:=(show ObjOk X.prog X.w H s.heap a (.tup xs) from I.hok a _ ea)
  obtain ⟨o,h1,h2,_⟩:=p
  exact PySem.W.kia_one PySem.W.kitx_tuple I.kIn ⟨o,h1,h2⟩ e (fun z=>nomatch z) h
 |@dK a kvs ea =>
  cases (show u=Value.ref a from rx)
  obtain ⟨_,_,vs,_,p⟩:=(show ObjOk X.prog X.w H s.heap a (.dK kvs) from I.hok a _ ea)
  obtain ⟨o,es,ep,h1,h2,_⟩:=p
  exact PySem.W.kia_one PySem.W.kitx_dict I.kIn ⟨o,h1,h2.1⟩ e (fun z=>nomatch z) h
 |@dT a kvs ea =>
  cases (show u=Value.ref a from rx)
  obtain ⟨_,_,xs,_,o,es,ep,h1,h2,_⟩:=(show ObjOk X.prog X.w H s.heap a (.dT kvs) from I.hok a _ ea)
  exact PySem.W.kia_one PySem.W.kitx_dict I.kIn ⟨o,h1,h2.1⟩ e (fun z=>nomatch z) h
 |@ins a C dx fs ea cl ha hn htk hm =>
  cases (show u=Value.ref a from rx)
  obtain ⟨mA,O,_⟩:=ins_get I.hok ea
  obtain ⟨od,J,_⟩:=O.look
  exact PySem.W.kia_one (PySem.W.kitx_own (cl.get _) cl.hd ha hn htk hm) I.kIn J e (fun z=>nomatch z) h
end
end L2
namespace L2
open PySem PySem.Spec PyProof.Rows
structure Room(k:Nat)(A:Around):Prop where
 hd:A.handled=none
 dp:A.depth + 3 * k + 5 < recursionLimit
 un:A.units + 16 * k + 200 < cLine
theorem Room.mono{j k:Nat}{A:Around}(r:Room k A)(h:j ≤ k):Room j A:=⟨r.hd,by have:=r.dp;omega,by have:=r.un;omega⟩
theorem Room.deeper{k:Nat}{A:Around}(r:Room (k + 1) A)(env:Env):Room k (A.deeper env) :=
 ⟨r.hd,by have:=r.dp;show A.depth + 1 + 3 * k + 5 < _;omega,by have:=r.un;show A.units + 3 + 16 * k + 200 < _;omega⟩
theorem make_depth{A:Around}{C:Addr}{us:List Value}{kw:List (Str×Value)}:(A.under (.builtin "type.__call__" ⟨.ref C :: us,kw⟩)).depth=A.depth + 1:=by
 first | rfl | simp [Around.under,Code.weight,Code.isCreation,Code.isGuard,Code.isCaller,Code.frames,Code.isFrame,guardIds]
theorem make_units{A:Around}{C:Addr}{us:List Value}{kw:List (Str×Value)}:(A.under (.builtin "type.__call__" ⟨.ref C :: us,kw⟩)).units=A.units + 1:=by
 first | rfl | simp [Around.under,Code.cUnits,Code.frames,Code.isFrame]
theorem Room.make{k:Nat}{A:Around}(r:Room (k + 1) A)(C:Addr)(us:List Value)(kw:List (Str×Value)):Room k (A.under (.builtin "type.__call__" ⟨.ref C :: us,kw⟩)) :=
 ⟨r.hd,by have:=r.dp;rw [make_depth];omega,by have:=r.un;rw [make_units];omega⟩
theorem Room.depth{k:Nat}{A:Around}(r:Room k A):A.depth < recursionLimit:=by have:=r.dp;omega
theorem Room.units{k:Nat}{A:Around}(r:Room k A):A.units + 64 < cLine:=by have:=r.un;omega
noncomputable def tNil:TA:=fun _ H Q=>Q [] H
noncomputable def tCons(ta:TE)(tr:TA):TA:=fun σ H Q=>ta σ H fun x H1=>tr σ H1 fun xs H2=>Q (x :: xs) H2
section
variable {X:Cx} {e:Expr} {es:List Expr} {te:TE} {t:TA} {pos:Pos}
theorem pa_nil:PA X [] tNil:=fun _ _ _ _ H Q I h=>Calls.spliced_nil ⟨[],H,I,.nil,h⟩
theorem pa_cons(ha:PE X e te)(hr:PA X es t)(hs:starEach (e :: es) X.env=(false,eval e X.env) :: starEach es X.env:=by rfl):PA X (e :: es) (tCons te t):=by
 intro pos pins s σ H Q I h
 rw [hs]
 show wpAny _ _ (spliced ((false,eval e X.env) :: backTo pos (starEach es X.env))) _ _ s
 refine Calls.spliced_cons (thn (ha pins s σ H _ I h) fun u s1 zz0=>?_)
 obtain ⟨x,H1,I1,r1,q1⟩:=zz0
 exact thn (hr pos pins s1 σ H1 _ I1 q1) fun us s2 ⟨xs,H2,I2,r2,q2⟩=>⟨x :: xs,H2,I2,.cons r1 r2,q2⟩
noncomputable def tTup(t:TA):TE:=fun σ H Q=>t σ H fun xs H1=>xs.length ≤ sizeLine∧∀ p,H1 p=none→Q (.ref p) (upd H1 p (.tup xs))
noncomputable def tLst(t:TA):TE:=fun σ H Q=>t σ H fun xs H1=>xs.length ≤ sizeLine∧∀ p,H1 p=none→Q (.ref p) (upd H1 p (.lst xs))
theorem pe_tup{x1}(h:PA X es t):PE X (.Tuple es x1 pos) (tTup t):=by
 intro pins s σ H Q I hq
 refine wpAny_Tuple_spliced (thn (h pos pins s σ H _ I hq) fun us s1 ⟨xs,H1,I1,r,z,q⟩=>⟨by rw [← r.length];exact z,?_⟩)
 have hf:H1 s1.heap.objs.size=none:=I1.hok.fresh (Nat.le_refl _)
 refine ⟨.ref s1.heap.objs.size,upd H1 s1.heap.objs.size (.tup xs),I1.laid (t':=s1.toks) (fun b u e=>Heap.get?_push_of_some _ e) (Nat.le_refl _) ?_,rfl,q _ hf⟩
 exact ⟨z,us,r,⟨_,Heap.get?_push_size _ rfl,rfl,_,rfl⟩⟩
theorem pe_lst(h:PA X es t):PE X (.List es pos) (tLst t):=by
 intro pins s σ H Q I hq
 refine wpAny_List_spliced (thn (h pos pins s σ H _ I hq) fun us s1 ⟨xs,H1,I1,r,z,q⟩=>⟨by rw [← r.length];exact z,?_⟩)
 have hf:H1 s1.heap.objs.size=none:=I1.hok.fresh (Nat.le_refl _)
 refine ⟨.ref s1.heap.objs.size,upd H1 s1.heap.objs.size (.lst xs),I1.laid (t':=s1.toks) (fun b u e=>Heap.get?_push_of_some _ e) (Nat.le_refl _) ?_,rfl,q _ hf⟩
 exact ⟨z,us,0,r,Heap.get?_push_size _ rfl⟩
end
noncomputable abbrev Sp:=List V→Hp→VK→XK→Prop
noncomputable abbrev CXT:=List Env→Hp→Shared→XK→Value→Shared→Prop
structure Env0(P:Program)(w:World)(K:PySem.W.Frag)(mg:Str→Option Value)(base:Heap)(A:Around)(outer:List Env)(s:Shared)(H:Hp):Prop where
 frames:A.frames=some outer
 mod:Mod K mg base
 bs:∀ b o,base.get? b=some o→s.heap.get? b=some o∧H b=none
 bsz:base.objs.size ≤ s.heap.objs.size
 funs:s.heap.FunFrames base outer
 frf:∀ b ∈ frs outer,H b=none
 hok:HOk P w H s.heap
 bare:AllBare s.gens
noncomputable def CE(outer:List Env)(P:Program)(w:World)(H:Hp)(s:Shared)(Q:VK)(u:Value)(s':Shared):Prop :=
 ∃ v H',s'.os=s.os∧AllBare s'.gens∧Un (frs outer) [] H H' s.heap s'.heap∧HOk P w H' s'.heap∧RelV v u∧Q v H'
noncomputable def CR(CX:CXT)(outer:List Env)(P:Program)(w:World)(H:Hp)(s:Shared)(Q:VK)(E:XK)(r:Result)(s':Shared):Prop :=
 match r with
 |.ok (.ret u)=>CE outer P w H s Q u s'
 |.ok _=>False
 |.error e=>CX outer H s E e s'
structure FnOk(P:Program)(w:World)(K:PySem.W.Frag)(mg:Str→Option Value)(base:Heap)(CX:CXT)(k:Nat)(f:Addr)(fd:FuncData)(ps:List Str)(sp:Sp):Prop where
 len:∀ vs H Q E,sp vs H Q E→vs.length=ps.length
 run:∀ (A:Around) (outer:List Env) (s:Shared) (H:Hp) (args:Args) (us:List Value) (vs:List V) (Q:VK) (E:XK),Room k A→Env0 P w K mg base A outer s H→BindsTo s fd args (ps.zip us)→Vals vs us→sp vs H Q E →
  codeAny (model P w) A (.call (.ref f) args) (CR CX outer P w H s Q E) s
theorem Env0.make{P:Program}{w:World}{K:PySem.W.Frag}{mg:Str→Option Value}{base:Heap}{A:Around}{outer:List Env}{s:Shared}{H:Hp}(e:Env0 P w K mg base A outer s H)(C:Addr)(us:List Value)(kw:List (Str×Value)) :
  Env0 P w K mg base (A.under (.builtin "type.__call__" ⟨.ref C :: us,kw⟩)) outer s H:=⟨by first | exact e.frames | (simpa [Around.under,Code.envs,Code.isFrame,pushEnvs] using e.frames),e.mod,e.bs,e.bsz,e.funs,e.frf,e.hok,e.bare⟩
section
variable {X:Cx} {pins:List (Addr×Obj)} {σ:St} {H:Hp} {s s':Shared}
theorem Inv.env0(I:Inv X pins σ H s):Env0 X.prog X.w X.K X.mg X.base X.A X.stack s H :=
 ⟨I.ok.frames,I.ok.mod,I.bs,Nat.le_trans I.ok.bsz I.sz,I.stack,I.stkFree,I.hok,I.bare⟩
theorem Inv.after{Q:VK}{u:Value}(I:Inv X pins σ H s)(h:CE X.stack X.prog X.w H s Q u s'):EP X pins σ Q u s':=by
 obtain ⟨v,H',os,bare,un,hok,r,q⟩:=h
 obtain ⟨hh,g,d,t,os'⟩:=s'
 obtain rfl:os'=s.os:=os
 exact ⟨v,H',I.call (h':=hh) (g':=g) (d':=d) (t':=t) (ch:=[]) un hok bare (fun b z=>absurd z (by simp)),r,q⟩
end
noncomputable def tCall(sp:Sp)(dvs:List V)(E:XK)(t:TA):TE:=fun σ H Q=>t σ H fun vs H1=>sp (vs ++ dvs) H1 Q E
noncomputable def Binds(K:PySem.W.Frag)(fd:FuncData)(ps:List Str)(ds:List Value):Prop :=
 ∀ (s:Shared) (us:List Value),K.In s.heap→(us ++ ds).length=ps.length→BindsTo s fd ⟨us,[]⟩ (ps.zip (us ++ ds))
theorem Binds.all{K:PySem.W.Frag}{fd:FuncData}{ps:List Str}(h:∀ us:List Value,us.length=ps.length→bindArgs fd ⟨us,[]⟩=pure (ps.zip us)):Binds K fd ps []:=fun s us _ hl=>by
 rw [List.append_nil] at hl ⊢
 exact .of_eq (h us hl)
noncomputable def Passes(CX:CXT)(X:Cx)(E:XK):Prop:=∀ (pins:List (Addr×Obj)) (σ:St) (H:Hp) (s:Shared) (e:Value) (s':Shared),Inv X pins σ H s→CX X.stack H s E e s'→X.xe e s'
section
variable {X:Cx} {CX:CXT} {k:Nat} {f C:Addr} {fd:FuncData} {ps:List Str} {sp:Sp} {dvs:List V} {ds:List Value} {E:XK} {x m:Str} {p pos apos:Pos} {e o:Expr} {es:List Expr} {ta:TE} {t:TA}
theorem run_fn{pins:List (Addr×Obj)}{σ:St}{H:Hp}{s:Shared}{Q:VK}{us:List Value}{vs:List V}(F:FnOk X.prog X.w X.K X.mg X.base CX k f fd ps sp)(hr:Room k X.A)(hb:Binds X.K fd ps ds)(hd:Vals dvs ds)(hx:Passes CX X E)
  (I:Inv X pins σ H s) (r:Vals vs us) (h:sp (vs ++ dvs) H Q E):wpAny (model X.prog X.w) X.A (call (.ref f) us) (EP X pins σ Q) X.xe s:=by
 have r2:Vals (vs ++ dvs) (us ++ ds):=r.append hd
 have hl:(us ++ ds).length=ps.length:=by rw [← r2.length];exact F.len _ _ _ _ h
 refine wpAny_call (codeAny_mono (F.run X.A X.stack s H ⟨us,[]⟩ (us ++ ds) (vs ++ dvs) Q E hr I.env0 (hb s us I.kIn hl) r2 h) fun r s' hq=>?_)
 cases r with
 |error e=>exact hx pins σ H s e s' I hq
 |ok fl =>
  cases fl with
  |ret u=>exact I.after hq
  |next=>exact False.elim hq
  |brk=>exact False.elim hq
  |cont=>exact False.elim hq
theorem pe_call(F:FnOk X.prog X.w X.K X.mg X.base CX k f fd ps sp)(hr:Room k X.A)(hg:Gl X x)(hm:X.mg x=some (.ref f))(hk:PySem.W.keepIn X.K (.ref f)=true)(hb:Binds X.K fd ps ds)(hd:Vals dvs ds)(hx:Passes CX X E)
  (ha:PA X (e :: es) t) (hdb:(x == ("__debug__":Str))=false:=by decide) (he:starEach (e :: es) X.env=(false,eval e X.env) :: starEach es X.env:=by rfl) (hpl:(backTo pos (starEach es X.env)).any (·.1)=false:=by rfl) :
  PE X (.Call (.Name x p) (e :: es) [] pos) (tCall sp dvs E t):=by
 intro pins s σ H Q I h
 refine wpAny_Call_Name_kw (ld_glob I hg hm ?_ hdb)
 refine PySem.W.callWith_K (h₀:=X.base) I.ok.mod.kin hk (thn (ha pos pins s σ H _ I h) fun us s1 ⟨vs,H1,I1,r,q⟩=>⟨I1.kIn,?_⟩) he hpl
 exact run_fn F hr hb hd hx I1 r q
end
section
variable {X:Cx} {CX:CXT} {k:Nat} {f C:Addr} {fd:FuncData} {ps ks:List Str} {sp:Sp} {E:XK} {x m:Str} {p pos apos kpos:Pos} {e o:Expr} {es:List Expr} {kws:List Keyword} {te ta:TE} {t tk:TA} {nm:Option Str}
variable {g:List Value→List Value→List Value} {gV:List V→List V→List V}
end
structure FnScope(N P:List Str)(sc:Scope):Prop where
 kind:sc.kind = .function
 co:sc.isCoroutine=false
 gen:sc.isGenerator=false
 nd:N.Nodup
 pre:N.take P.length=P
 par:∀ x ∈ P,sc.names.lookup x=some .local∨sc.names.lookup x=some .cell
 nofree:∀ y ∈ sc.names,y.2 ≠ .free
theorem bindL_out{kindOf:Str→Option NameKind}{x:Str}:∀ {binds:List (Str×Value)} {m:Str→Option Value},(∀ v,(x,v) ∉ binds)→bindL kindOf binds m x=m x
 |[],_,_=>rfl
 |(n,v) :: r,m,h=>by
  unfold bindL
  rw [bindL_out fun w hw=>h w (List.mem_cons_of_mem _ hw)]
  split
  ·have:x ≠ n:=by rintro rfl;exact h v List.mem_cons_self
   simp [this]
  ·rfl
theorem bindC_out{kindOf:Str→Option NameKind}{x:Str}:∀ {binds:List (Str×Value)} {m:Str→Option Value},(∀ v,(x,v) ∉ binds)→bindC kindOf binds m x=m x
 |[],_,_=>rfl
 |(n,v) :: r,m,h=>by
  unfold bindC
  rw [bindC_out fun w hw=>h w (List.mem_cons_of_mem _ hw)]
  split
  ·rfl
  ·have:x ≠ n:=by rintro rfl;exact h v List.mem_cons_self
   simp [this]
theorem bindL_get{kindOf:Str→Option NameKind}{x:Str}{v:Value}:∀ {P:List Str} {vs:List Value} {i:Nat} {m:Str→Option Value},P.Nodup→P[i]?=some x→vs[i]?=some v→kindOf x=some .local →
  bindL kindOf (P.zip vs) m x=some v
 |[],_,_,_,_,h,_,_=>by simp at h
 |_ :: _,[],_,_,_,_,h,_=>by simp at h
 |p :: P,w :: vs,0,m,nd,h1,h2,hk=>by
  simp at h1 h2;subst h1;subst h2
  show bindL kindOf ((p,w) :: P.zip vs) m p=_
  unfold bindL
  rw [bindL_out fun v hv=>(List.nodup_cons.mp nd).1 (List.of_mem_zip hv).1,if_pos hk]
  simp
 |p :: P,w :: vs,i + 1,m,nd,h1,h2,hk=>by
  show bindL kindOf ((p,w) :: P.zip vs) m x=_
  unfold bindL
  exact bindL_get (i:=i) (List.nodup_cons.mp nd).2 (by simpa using h1) (by simpa using h2) hk
theorem bindC_get{kindOf:Str→Option NameKind}{x:Str}{v:Value}:∀ {P:List Str} {vs:List Value} {i:Nat} {m:Str→Option Value},P.Nodup→P[i]?=some x→vs[i]?=some v→kindOf x ≠ some .local →
  bindC kindOf (P.zip vs) m x=some v
 |[],_,_,_,_,h,_,_=>by simp at h
 |_ :: _,[],_,_,_,_,h,_=>by simp at h
 |p :: P,w :: vs,0,m,nd,h1,h2,hk=>by
  simp at h1 h2;subst h1;subst h2
  show bindC kindOf ((p,w) :: P.zip vs) m p=_
  unfold bindC
  rw [bindC_out fun v hv=>(List.nodup_cons.mp nd).1 (List.of_mem_zip hv).1,if_neg hk]
  simp
 |p :: P,w :: vs,i + 1,m,nd,h1,h2,hk=>by
  show bindC kindOf ((p,w) :: P.zip vs) m x=_
  unfold bindC
  exact bindC_get (i:=i) (List.nodup_cons.mp nd).2 (by simpa using h1) (by simpa using h2) hk
noncomputable def start(N:List Str)(vs:List V):St:=vs.map some ++ List.replicate (N.length - vs.length) none
noncomputable def cxOf(CX:CXT)(P:Program)(w:World)(K:PySem.W.Frag)(mg:Str→Option Value)(base:Heap)(N:List Str)(qual:Str)(scope:Scope)(f:Addr)(cd:Value)(A:Around)(outer:List Env)(s:Shared)(H:Hp)(E:XK):Cx where
 prog:=P
 w:=w
 K:=K
 mg:=mg
 base:=base
 A:=A.deeper (envOfC qual scope s.heap.objs.size f cd)
 N:=N
 s₀:=s
 H₀:=H
 env:=envOfC qual scope s.heap.objs.size f cd
 outer:=outer
 stack:=envOfC qual scope s.heap.objs.size f cd :: outer
 ex:=[]
 calm:=true
 fn:=fun _=>true
 pn:=[]
 xe:=fun e s'=>wpAny (model P w) (A.deeper (envOfC qual scope s.heap.objs.size f cd)) (leaving (envOfC qual scope s.heap.objs.size f cd) e) (fun _ s''=>CX outer H s E e s'') (fun e' s''=>CX outer H s E e' s'') s'
theorem cell_has{sc:Scope}{n:Nat}{x:Str}(h:sc.names.lookup x=some .cell):∃ c,(cellsFrom n sc.names []).lookup x=some c:=by
 have q:=PySem.W.cellsFrom_some sc.names n [] (.inl h)
 exact Option.isSome_iff_exists.mp q
theorem inv_start{CX:CXT}{P:Program}{w:World}{K:PySem.W.Frag}{mg:Str→Option Value}{base:Heap}{N ps:List Str}{qual:Str}{scope:Scope}{f:Addr}{cd:Value}{A:Around}{outer:List Env}{s s1:Shared}{H:Hp}{E:XK}{us:List Value}{vs:List V}
  (S:FnScope N ps scope) (hd:A.handled=none) (e0:Env0 P w K mg base A outer s H) (hl:vs.length=ps.length) (r:Vals vs us)
  (x:InCallC s s.heap.objs.size (bindL (envOfC qual scope s.heap.objs.size f cd).kindOf (ps.zip us) fun _=>none) (cellsFrom (s.heap.objs.size + 1) scope.names []) (bindC (envOfC qual scope s.heap.objs.size f cd).kindOf (ps.zip us) fun _=>none) s1) :
  Inv (cxOf CX P w K mg base N qual scope f cd A outer s H E) [] (start N vs) H s1:=by
 have hpl:ps.length ≤ N.length:=by have:=congrArg List.length S.pre;rw [List.length_take] at this;omega
 obtain ⟨h1,tk,rfl,hk⟩:=x.done
 have noA:∀ b:Addr,b ∉ (cxOf CX P w K mg base N qual scope f cd A outer s H E).ex:=fun b z=>absurd (show b ∈ ([]:List Addr) from z) (by simp)
 refine ⟨⟨e0.mod,S.kind,rfl,rfl,Nat.le_refl _,fun y z c h1 h2=>?_,fun y hy=>?_,fun y c _ h=>?_,fun _=>hd,Around.frames_deeper e0.frames,.inr ⟨rfl,rfl⟩,fun b z=>absurd z (noA b),e0.bs,e0.bsz,fun b _ _=>noA b,fun b z=>absurd z (noA b),e0.funs,e0.frf⟩,
  rfl,e0.bare,Un.kept hk,⟨_,x.toInCall.ns,fun i y v h1 h2 h3=>?_⟩,fun y c h=>⟨_,x.cell y c h⟩,e0.hok.fresh (Nat.le_refl _),fun y c h=>?_,fun p hp=>absurd (show p ∈ ([]:List (Addr×Obj)) from hp) (by simp),e0.hok.kept hk,?_⟩
 ·exact name_of_addr x.apart (PySem.mem_of_lookup h1) (PySem.mem_of_lookup h2)
 ·have hy:scope.names.lookup y=some .cell∨scope.names.lookup y=some .free:=hy
  rcases hy with hy | hy
  ·exact cell_has hy
  ·exact absurd rfl (S.nofree _ (PySem.mem_of_lookup hy))
 ·exact Nat.le_of_lt (x.above y c (PySem.mem_of_lookup h))
 ·have hi:i < vs.length:=by
   unfold start at h2
   by_cases hi:i < vs.length
   ·exact hi
   ·rw [List.getElem?_append_right (by simpa using hi)] at h2
    rw [List.getElem?_replicate] at h2
    split at h2 <;> cases h2
  have ha:vs[i]?=some v:=by
   unfold start at h2
   rw [List.getElem?_append_left (by simpa using hi),List.getElem?_map] at h2
   cases e:vs[i]? with
   |none=>rw [e] at h2;cases h2
   |some a=>rw [e] at h2;cases h2;rfl
  obtain ⟨u,hu,rv⟩:=r.get ha
  have hp:ps[i]?=some y:=by
   rw [← S.pre,List.getElem?_take_of_lt (by omega)];exact h1
  have ndP:ps.Nodup:=by rw [← S.pre];exact S.nd.sublist (List.take_sublist _ _)
  refine ⟨u,rv,?_⟩
  rcases S.par y (List.mem_of_getElem? hp) with k | k
  ·exact .inl ⟨k,bindL_get ndP hp hu k⟩
  ·obtain ⟨c,e⟩:=cell_has (n:=s.heap.objs.size + 1) k
   refine .inr ⟨.inl k,c,e,?_⟩
   have q:=x.cell y c e
   rw [bindC_get ndP hp hu (by show scope.names.lookup y ≠ _;rw [k];decide)] at q
   exact q
 ·exact e0.hok.fresh (Nat.le_of_lt (x.above y c (PySem.mem_of_lookup h)))
 ·unfold start
  show _=N.length
  rw [List.length_append,List.length_map,List.length_replicate]
  omega
theorem fn_of{CX:CXT}{P:Program}{w:World}{K:PySem.W.Frag}{mg:Str→Option Value}{base:Heap}{k:Nat}{f:Addr}{name qual:Str}{params:Arguments}{body:List Stmt}{scope:Scope}{dV kV doc pm cdv ct oc:Value}{an od:Option Addr}
  {osl:Array (Option Value)} {N ps:List Str} {sp:Sp} (lk:K.lookup f=some ⟨oc,od,.func (PySem.W.fnOf name qual params body scope dV kV doc pm an cdv ct),osl⟩) (hcd:PySem.W.codeIn K cdv qual=true) (S:FnScope N ps scope)
  (len:∀ vs H Q E,sp vs H Q E→vs.length=ps.length)
  (hbody:∀ (A:Around) (outer:List Env) (s:Shared) (H:Hp) (vs:List V) (Q:VK) (E:XK),Room k (A.deeper (envOfC qual scope s.heap.objs.size f cdv))→sp vs H Q E →
   ∃ t,PSs (cxOf CX P w K mg base N qual scope f cdv A outer s H E) body t∧t { nx:=fun _ H'=>Q .non H',rt:=Q } (start N vs) H) :
  FnOk P w K mg base CX (k + 1) f (PySem.W.fnOf name qual params body scope dV kV doc pm an cdv ct) ps sp:=by
 refine ⟨len,fun A outer s H args us vs Q E hr e0 hb r hsp=>?_⟩
 have hl:=len _ _ _ _ hsp
 have KX:K.In s.heap:=e0.mod.kin.keeps fun b o e=>(e0.bs b o e).1
 have lim:s.heap.NoLimit:=e0.mod.nolimit.keeps fun b o e=>(e0.bs b o e).1
 have hkind:∀ y ∈ ps.zip us,scope.names.lookup y.1=some .local∨(scope.names.lookup y.1=some .cell∧((cellsFrom (s.heap.objs.size + 1) scope.names []).lookup y.1).isSome=true):=fun zz0 hy=>by
  obtain ⟨n,v⟩:=zz0
  rcases S.par n (List.of_mem_zip hy).1 with q | q
  ·exact .inl q
  ·exact .inr ⟨q,PySem.W.cellsFrom_some _ _ _ (.inl q)⟩
 refine codeAny_call_function hr.depth (KX _ _ lk) rfl S.co S.gen rfl (PySem.W.codeRec_of KX hcd) (hb _ _ _ _ ?_)
 refine wpAny_newFunctionEnv_cells S.kind hkind fun env he s1 x=>?_
 subst he
 refine ⟨lim.keeps x.toInCall.keep,codeAny_func ?_⟩
 obtain ⟨t,ht,hq⟩:=hbody A outer s H vs Q E (hr.deeper _) hsp
 have I:Inv (cxOf CX P w K mg base N qual scope f cdv A outer s H E) [] (start N vs) H s1:=inv_start S hr.hd e0 hl r x
 refine wpAny_mono (ht [] s1 (start N vs) H _ I hq) (fun fl s' hs=>?_) fun e s' hs=>hs
 have fin:∀ {σ':St} {H':Hp} {v:V} {u:Value},Inv (cxOf CX P w K mg base N qual scope f cdv A outer s H E) [] σ' H' s'→RelV v u→Q v H'→CE outer P w H s Q u s' :=
  fun {σ' H' v u} J rv q=>⟨v,H',J.os,J.bare,J.base,J.hok,rv,q⟩
 cases fl with
 |ret u =>
  obtain ⟨v,σ',H',J,rv,q⟩:=hs
  exact fin J rv q
 |next =>
  obtain ⟨σ',H',J,q⟩:=hs
  exact fin (v:=V.non) (u:=Value.none) J rfl q
 |brk =>
  obtain ⟨_,_,_,q⟩:=hs
  exact False.elim q
 |cont =>
  obtain ⟨_,_,_,q⟩:=hs
  exact False.elim q
end L2
namespace L2
open PySem PySem.Spec PyProof.Rows
section
variable {X:Cx} {x:Str} {p pos:Pos} {e:Expr} {es:List Expr} {t:TA} {id T:String} {r:List V→Hp→VK→Prop}
noncomputable def tCB(r:List V→Hp→VK→Prop)(t:TA):TE:=fun σ H Q=>t σ H fun vs H1=>r vs H1 Q
theorem pe_callB(hc:CallR X (.builtin id) r)(hg:Gl X x)(hm:X.mg x=none)(hv:bootBuiltins x=some (.builtin id))(ha:PA X (e :: es) t)(hn:x ≠ "__name__":=by decide)(hdb:(x == ("__debug__":Str))=false:=by decide)
  (he:starEach (e :: es) X.env=(false,eval e X.env) :: starEach es X.env:=by rfl) (hpl:(backTo pos (starEach es X.env)).any (·.1)=false:=by rfl):PE X (.Call (.Name x p) (e :: es) [] pos) (tCB r t):=by
 intro pins s σ H Q I h
 refine wpAny_Call_Name_kw (ld_blt I hg hm hv ?_ hn hdb)
 exact PyProof.Rows.callWith_builtin1 (thn (ha pos pins s σ H _ I h) fun us s1 ⟨vs,H1,I1,r1,q1⟩=>hc pins s1 σ H1 vs us Q I1 r1 q1) he hpl
theorem pe_callTy(hc:CallR X (.type T) r)(hg:Gl X x)(hm:X.mg x=none)(hv:bootBuiltins x=some (.type T))(ha:PA X (e :: es) t)(hn:x ≠ "__name__":=by decide)(hdb:(x == ("__debug__":Str))=false:=by decide)
  (he:starEach (e :: es) X.env=(false,eval e X.env) :: starEach es X.env:=by rfl) (hpl:(backTo pos (starEach es X.env)).any (·.1)=false:=by rfl):PE X (.Call (.Name x p) (e :: es) [] pos) (tCB r t):=by
 intro pins s σ H Q I h
 refine wpAny_Call_Name_kw (ld_blt I hg hm hv ?_ hn hdb)
 exact PyProof.Rows.callWith_type1 (thn (ha pos pins s σ H _ I h) fun us s1 ⟨vs,H1,I1,r1,q1⟩=>hc pins s1 σ H1 vs us Q I1 r1 q1) he hpl
end
end L2
namespace L2
open PySem PySem.Spec PyProof.Rows
section
variable {κ:Type} [DecidableEq κ]
noncomputable def valV(kvs:List (κ×V))(k:κ):Option V:=(kvs.find? fun kv=>decide (kv.1=k)).map (·.2)
theorem valV_pos{p:κ×V}{r:List (κ×V)}{k:κ}(e:p.1=k):valV (p :: r) k=some p.2:=by simp [valV,List.find?_cons,e]
theorem valV_neg{p:κ×V}{r:List (κ×V)}{k:κ}(e:¬ p.1=k):valV (p :: r) k=valV r k:=by simp [valV,List.find?_cons,e]
theorem KV.val{kvs:List (κ×V)}{vs:List (κ×Value)}(r:KV kvs vs)(k:κ):RelO (valV kvs k) (valueAt vs k):=by
 unfold KV at r
 induction r with
 |nil=>exact True.intro
 |@cons p q ps qs h t ih =>
  obtain ⟨h1,h2⟩:=h
  by_cases e:p.1=k
  ·have e':q.1=k:=h1.symm.trans e
   have b:valueAt (q :: qs) k=some q.2:=by simp [valueAt,List.find?_cons,e']
   rw [valV_pos e,b];exact h2
  ·have e':¬ q.1=k:=fun z=>e (h1.trans z)
   have b:valueAt (q :: qs) k=valueAt qs k:=by simp [valueAt,List.find?_cons,e']
   rw [valV_neg e,b];exact ih
end
theorem kV_is{P:Program}{w:World}{k:Key}{u:Value}(r:RelV (kV k) u):(mixKind P w).is k u=true:=by
 cases k with
 |inl i=>obtain ⟨t,e⟩:=(show ∃ t,u=Value.int i t from r);subst e;exact mixKind_int P w i t
 |inr x=>obtain ⟨t,e⟩:=(show ∃ t,u=Value.str x t from r);subst e;exact mixKind_str P w x t
noncomputable abbrev KT(H:Hp):List (List Key×V)→List (List Key×Addr×Value)→Prop:=Paired fun p q=>p.1=q.1∧H q.2.1=some (.tup (p.1.map kV))∧RelV p.2 q.2.2
theorem KT.val{H:Hp}{kvs:List (List Key×V)}{xs:List (List Key×Addr×Value)}(r:KT H kvs xs)(k:List Key):RelO (valV kvs k) ((atKey xs k).map (·.2)):=by
 induction r with
 |nil=>exact True.intro
 |@cons p q ps qs h t ih =>
  obtain ⟨h1,_,h2⟩:=h
  by_cases e:p.1=k
  ·have e':q.1=k:=h1.symm.trans e
   have b:atKey (q :: qs) k=some q.2:=by simp [atKey,List.find?_cons,e']
   rw [valV_pos e,b];exact h2
  ·have e':¬ q.1=k:=fun z=>e (h1.trans z)
   have b:atKey (q :: qs) k=atKey qs k:=by simp [atKey,List.find?_cons,e']
   rw [valV_neg e,b];exact ih
theorem KT.keeps{H H':Hp}{kvs:List (List Key×V)}{xs:List (List Key×Addr×Value)}(r:KT H kvs xs)(ht:∀ b ys,H b=some (.tup ys)→H' b=some (.tup ys)):KT H' kvs xs :=
 Paired.mapP r fun _ _ z=>⟨z.1,ht _ _ z.2.1,z.2.2⟩
section
variable {P:Program} {w:World} {H:Hp} {h:Heap} {a:Addr}
end
section
variable {X:Cx} {pins:List (Addr×Obj)} {σ:St} {H:Hp} {s:Shared} {a:Addr} {y v:V} {u r:Value} {o:Option V} {A:Around} {E:Value→Shared→Prop}
end
section
variable {X:Cx} {pins:List (Addr×Obj)} {σ:St} {H:Hp} {s:Shared} {a:Addr} {kvs:List (Key×V)} {k:Key} {u:Value} {A:Around} {E:Value→Shared→Prop}
end
noncomputable def NoSl(i:Expr):Prop:=∀ ov iv,subscripted i false ov iv=operate [ov,iv] (getItem ov iv)
theorem subD_of{prog:Program}{w:World}{A:Around}{E:Value→Shared→Prop}{s:Shared}{env:Env}{value slice:Expr}{pos:Pos}{T id:String}{Q:Value→Shared→Prop}
  (hl:typeLookup (.type T) "__getitem__" = pure (some (.builtin id))) (hs:NoSl slice)
  (h:wpAny (model prog w) A (eval value env) (fun o s₁=>wpAny (model prog w) A (eval slice env) (fun i s₂=>s₂.TypeIs o T∧wpAny (model prog w) A (getItem o i) Q E s₂) E s₁) E s) :
  wpAny (model prog w) A (eval (.Subscript value slice pos) env) Q E s:=by
 refine Subscript_ (wpAny_mono h (fun o s₁ h₁=>wpAny_mono h₁ (fun i s₂ h₂=>?_) fun _ _ x=>x) fun _ _ x=>x)
 obtain ⟨hT,h₂⟩:=h₂
 unfold subscriptTail
 refine wpAny_bind ?_
 rw [getitemInPython_of_ne hT.not_modules]
 refine wpAny_bind (wpAny_specialOf hT hl ?_)
 have fin:wpAny (model prog w) A (subscripted slice false o i) (fun r s₃=>wpAny (model prog w) A (letTemporaryGo value o r >>= fun _=>pure r) Q E s₃) E s₂:=by
  rw [hs o i]
  exact wpAny_operating (wpAny_mono h₂ (fun r s₃ h₃=>wpAny_bind (wpAny_letTemporaryGo (wpAny_pure h₃))) fun _ _ x=>x)
 first
  |exact wpAny_pure (wpAny_bind fin)
  |exact wpAny_bind (wpAny_pure (wpAny_bind fin))
  |exact wpAny_bind fin
section
variable {X:Cx} {o i e value:Expr} {pos pos' tpos:Pos} {td ty tv:TE}
end
section
variable {X:Cx} {pos:Pos}
end
section
variable {X:Cx} {pins:List (Addr×Obj)} {σ:St} {H:Hp} {s:Shared} {a:Addr} {y d:V} {u r:Value} {o:Option V} {A:Around} {E:Value→Shared→Prop}
end
section
variable {X:Cx} {o e f:Expr} {apos cpos:Pos} {td ty tx:TE}
end
section
variable {X:Cx} {pins:List (Addr×Obj)} {σ:St} {H:Hp} {s:Shared} {a:Addr} {kvs:List (Key×V)} {A:Around} {E:Value→Shared→Prop}
end
section
variable {X:Cx} {pins:List (Addr×Obj)} {σ:St} {H:Hp} {s:Shared} {a:Addr} {y:V} {u:Value} {A:Around} {E:Value→Shared→Prop}
end
end L2
namespace HT
open PySem PyProof.Rows
noncomputable def lexLt:List Int→List Int→Bool
 |[],[]=>false
 |[],_ :: _=>true
 |_ :: _,[]=>false
 |x :: xs,y :: ys=>if x=y then lexLt xs ys else decide (x < y)
section
open PySem.SeqAt
open PySem.AutoSeq1 (wpAny_loadPart')
open PySem.MeetsSeq PySem.MeetsSeq2 PySem.MeetsSeq3
end
section
variable {prog:Program} {w:World} {A:Around} {E:Value→Shared→Prop} {s:Shared}
theorem cat_tup{t b:Addr}{vs ws:List Value}{Q:Value→Shared→Prop}(ht:IsTup s.heap t vs.toArray)(hb:IsTup s.heap b ws.toArray)(hv:vs ≠ [])
  (h1:ws=[]→Q (.ref t) s) (h2:ws ≠ []→Q (.ref s.heap.objs.size) { s with heap:=s.heap.push { cls:=.type "tuple",data:=.seq (vs ++ ws).toArray } })
  (hsz:vs.length + ws.length ≤ sizeLine):wpAny (model prog w) A (binaryOp .Add (.ref t) (.ref b)) Q E s:=by
 obtain ⟨⟨cls,dd,data,sl⟩,ho,hc,n,hd⟩:=id ht
 obtain ⟨⟨cls2,dd2,data2,sl2⟩,ho2,hc2,n2,hd2⟩:=id hb
 simp only at hc hd hc2 hd2
 subst hc hd hc2 hd2
 have e:vs.toArray ++ ws.toArray=(vs ++ ws).toArray:=by simp
 by_cases hw:ws=[]
 ·exact concat_meets ⟨_,ho,rfl⟩ ⟨_,ho2,rfl⟩ noFill_tuple_add seq_tuple_add PySem.F.slot_tuple_add PySem.F.entry_tuple_add (PySem.F.args_tuple_add_2 _ _)
   (tuple_addW1 t b vs.toArray ws.toArray n n2 dd dd2 sl sl2 (by simpa using hv) (by simp [hw])) ⟨ho,ho2,h1 hw⟩
 ·refine concat_meets ⟨_,ho,rfl⟩ ⟨_,ho2,rfl⟩ noFill_tuple_add seq_tuple_add PySem.F.slot_tuple_add PySem.F.entry_tuple_add (PySem.F.args_tuple_add_2 _ _)
   (tuple_addW2 t b vs.toArray ws.toArray n n2 dd dd2 sl sl2 (by simpa using hv) (by simpa using hw) (by rw [List.size_toArray,List.size_toArray];exact hsz)) ⟨ho,ho2,?_⟩
  rw [e]
  exact h2 hw
noncomputable def sIx(n d:Nat):Option Int→Nat
 |none=>d
 |some v=>if v < 0 then (v + (n:Int)).toNat else min v.toNat n
theorem sIx_le(n d:Nat)(hd:d ≤ n)(o:Option Int):sIx n d o ≤ n:=by
 cases o with
 |none=>exact hd
 |some v =>
  show (if v < 0 then (v + (n:Int)).toNat else min v.toNat n) ≤ n
  by_cases hv:v < 0
  ·rw [if_pos hv];omega
  ·rw [if_neg hv];exact Nat.min_le_right _ _
theorem clip_eq(v:Int)(n d:Nat):(if v < 0 then max (v + (n:Int)) 0 else min v (n:Int))=((sIx n d (some v):Nat):Int):=by
 show (if v < 0 then max (v + (n:Int)) 0 else min v (n:Int))=(((if v < 0 then (v + (n:Int)).toNat else min v.toNat n):Nat):Int)
 by_cases hv:v < 0
 ·simp only [if_pos hv];omega
 ·simp only [if_neg hv];omega
theorem adjust_gen(lo hi:Option Int)(n:Nat):Builtin.Slice.sliceAdjust lo hi 1 (n:Int)=(((sIx n 0 lo:Nat):Int),((sIx n n hi:Nat):Int)):=by
 have h1:¬ ((1:Int) < 0):=by omega
 unfold Builtin.Slice.sliceAdjust
 simp only [h1,if_false]
 refine Prod.ext ?_ ?_
 ·cases lo with
  |none=>rfl
  |some v=>exact clip_eq v n 0
 ·cases hi with
  |none=>rfl
  |some v=>exact clip_eq v n n
theorem places_gen(i j:Nat):Builtin.Slice.slicePlaces (i:Int) (j:Int) 1=j - i:=by
 unfold Builtin.Slice.slicePlaces
 have h1:(1:Int) > 0:=by omega
 simp only [h1,if_true,Int.ediv_one]
 split <;> omega
theorem slicePart_{v:Value}{o:Option Int}{Q:Option Int→Shared→Prop}(p:IsPart v o)(h:Q o s):wpAny (model prog w) A (Builtin.Slice.slicePartIndex v) Q E s:=by
 cases p with
 |none=>exact slicePart_none h
 |int i t=>exact slicePart_int h
theorem sliceApplied_gen{sl:Addr}{vl vu:Value}{lo hi:Option Int}{n:Nat}{Q:Int×Int×Nat→Shared→Prop}(hs:s.heap.IsSliceOf sl vl vu .none)(pl:IsPart vl lo)(pu:IsPart vu hi)
  (h:Q (((sIx n 0 lo:Nat):Int),1,sIx n n hi - sIx n 0 lo) s):wpAny (model prog w) A (Builtin.Slice.sliceApplied (.ref sl) (pure (n:Int))) Q E s:=by
 obtain ⟨os,hos,hcs,hds⟩:=id hs
 unfold Builtin.Slice.sliceApplied Builtin.Slice.sliceFields
 refine wpAny_bind (wpAny_bind (wpAny_field hos hds (x:=vl) rfl (wpAny_bind (wpAny_field hos hds (x:=vu) rfl (wpAny_bind (wpAny_field hos hds (x:=.none) rfl (wpAny_pure ?_)))))))
 refine wpAny_bind (slicePart_none ?_)
 show wpAny _ _ (if ((1:Int) == 0)=true then _ else _) _ _ s
 rw [if_neg (by decide)]
 refine wpAny_bind (slicePart_ pl (wpAny_bind (slicePart_ pu (wpAny_bind (wpAny_pure ?_)))))
 show wpAny _ _ (match Builtin.Slice.sliceAdjust lo hi 1 (n:Int) with | (lo,hi)=>pure (lo,(1:Int),Builtin.Slice.slicePlaces lo hi 1)) _ _ s
 rw [adjust_gen lo hi n]
 show wpAny _ _ (pure (((sIx n 0 lo:Nat):Int),(1:Int),Builtin.Slice.slicePlaces ((sIx n 0 lo:Nat):Int) ((sIx n n hi:Nat):Int) 1)) _ _ s
 rw [places_gen]
 exact wpAny_pure h
theorem pick_gen(xs:Array Value)(i k:Nat):((List.range k).filterMap fun (m:Nat)=>xs[((i:Int) + (m:Int) * 1).toNat]?).toArray=((xs.toList.drop i).take k).toArray:=by
 have e:(fun (m:Nat)=>xs[((i:Int) + (m:Int) * 1).toNat]?)=fun m=>xs[i + m]?:=by
  funext m
  have:((i:Int) + (m:Int) * 1).toNat=i + m:=by omega
  rw [this]
 rw [e]
 have:=pick_run xs i k
 rw [List.filterMap_map] at this
 have e2:((fun x=>xs[x]?) ∘ fun x=>i + x)=fun m=>xs[i + m]?:=rfl
 rw [e2] at this
 rw [this]
theorem getItem_tuple_cut{t sl:Addr}{items:Array Value}{vl vu:Value}{lo hi:Option Int}{Q:Value→Shared→Prop}(ht:IsTup s.heap t items)(hs:s.heap.IsSliceOf sl vl vu .none)(pl:IsPart vl lo)(pu:IsPart vu hi)
  (hw:¬ (sIx items.size 0 lo=0∧sIx items.size items.size hi=items.size))
  (h:Q (.ref s.heap.objs.size) { s with heap:=s.heap.push { cls:=.type "tuple",data:=.seq ((items.toList.drop (sIx items.size 0 lo)).take (sIx items.size items.size hi - sIx items.size 0 lo)).toArray } })
  (hsz:items.size ≤ sizeLine):wpAny (model prog w) A (getItem (.ref t) (.ref sl)) Q E s:=by
 have htake:sizeOk (.seq ((items.toList.drop (sIx items.size 0 lo)).take (sIx items.size items.size hi - sIx items.size 0 lo)).toArray):=by
  show ((items.toList.drop (sIx items.size 0 lo)).take (sIx items.size items.size hi - sIx items.size 0 lo)).toArray.size ≤ sizeLine
  rw [List.size_toArray,List.length_take,List.length_drop,Array.length_toList]
  omega
 have hj:sIx items.size items.size hi ≤ items.size:=sIx_le _ _ (Nat.le_refl _) hi
 obtain ⟨os,hos,hcs,hds⟩:=id hs
 have hTs:s.TypeIs (.ref sl) "slice":=⟨os,hos,hcs⟩
 unfold getItem
 try with_reducible refine wpAny_holding ?_
 first | refine wpAny_bind (wpAny_pure ?_) | skip
 refine wpAny_bind (wpAny_sequenceKey ht.typeIs (by decide) ?_)
 refine wpAny_bind (wpAny_callSpecial?_slot (name:=Str.ofString "__getitem__") ht.typeIs PyProof.Rows.slot_tuple_getitem
  (wpAny_call_entry PyProof.Rows.slot_tuple_getitem ht.typeIs entry_tuple_getitem ?_ (args_tuple_getitem _ _)))
 show wpAny _ _ (Builtin.Tuple.tupleItemsOf (.ref t) >>= _) _ _ s
 refine wpAny_bind (tupleItemsOf_ ht ?_)
 refine wpAny_bind (wpAny_typeOf hTs ?_)
 rw [if_pos (by decide)]
 refine wpAny_bind (sliceApplied_gen hs pl pu ?_)
 have hno:¬ ((((sIx items.size 0 lo:Nat):Int) == 0 && (1:Int) == 1 && (sIx items.size items.size hi - sIx items.size 0 lo) == items.size)=true):=by
  intro q
  rw [Bool.and_eq_true,Bool.and_eq_true] at q
  have q1:((sIx items.size 0 lo:Nat):Int)=0:=eq_of_beq q.1.1
  have q2:sIx items.size items.size hi - sIx items.size 0 lo=items.size:=eq_of_beq q.2
  exact hw ⟨by omega,by omega⟩
 show wpAny _ _ (if (((sIx items.size 0 lo:Nat):Int) == 0 && (1:Int) == 1 && (sIx items.size items.size hi - sIx items.size 0 lo) == items.size)=true then _ else _) _ _ s
 rw [if_neg hno,pick_gen]
 first
  |exact wpAny_bind (m:=Builtin.Tuple.tupleExact _) (wpAny_newObj_type (wpAny_pure ⟨_,rfl,wpAny_pure h⟩) htake)
  |exact wpAny_bind (m:=Builtin.Tuple.tupleExact _) (wpAny_newObj_type (wpAny_bind (wpAny_pure (wpAny_pure ⟨_,rfl,wpAny_pure h⟩))) htake)
  |exact wpAny_bind (wpAny_bind (m:=Builtin.Tuple.tupleExact _) (wpAny_newObj_type (wpAny_pure (wpAny_pure ⟨_,rfl,wpAny_pure h⟩)) htake))
  |exact wpAny_bind (wpAny_bind (m:=Builtin.Tuple.tupleExact _) (wpAny_newObj_type (wpAny_pure ⟨_,rfl,wpAny_pure h⟩) htake))
end
end HT
namespace L2
open PySem PySem.Spec PyProof.Rows
noncomputable abbrev TO:=St→Hp→(Option Int→Hp→Prop)→Prop
noncomputable def PO(X:Cx)(e:Option Expr)(t:TO):Prop :=
 ∀ (pins:List (Addr×Obj)) (s:Shared) (σ:St) (H:Hp) (Q:Option Int→Hp→Prop),Inv X pins σ H s→t σ H Q →
  wpAny (model X.prog X.w) X.A (evalPart e X.env) (fun u s'=>∃ o H',Inv X pins σ H' s'∧IsPart u o∧Q o H') X.xe s
noncomputable def tNoPart:TO:=fun _ H Q=>Q none H
noncomputable def tPart(t:TE):TO:=fun σ H Q=>t σ H fun x H1=>∃ i,x = .int i∧Q (some i) H1
theorem intsAre_of{ns:List Int}:∀ {us:List Value},Vals (ns.map V.int) us→IntsAre us ns:=by
 induction ns with
 |nil=>intro us r;rw [List.map_nil] at r;cases r;exact .nil
 |cons n ns ih =>
  intro us r
  rw [List.map_cons] at r
  cases r with
  |cons r1 r2 =>
   obtain ⟨t,e⟩:=r1
   subst e
   exact .cons n t (ih r2)
section
variable {X:Cx} {e:Expr} {te:TE} {lo hi:Option Expr} {tl th:TO} {pos p2:Pos}
theorem po_none:PO X none tNoPart:=by
 intro pins s σ H Q I h
 rw [evalPart_none]
 exact wpAny_pure ⟨none,H,I,.none,h⟩
theorem po_some(h:PE X e te):PO X (some e) (tPart te):=by
 intro pins s σ H Q I hw
 rw [evalPart_some]
 refine thn (h pins s σ H _ I hw) fun u s1 zz0=>?_
 obtain ⟨x,H1,I1,r1,q1⟩:=zz0
 obtain ⟨i,rfl,q⟩:=q1
 obtain ⟨t,rfl⟩:=r1
 exact ⟨some i,H1,I1,.int i t,q⟩
noncomputable def SlR(X:Cx)(r:V→Option Int→Option Int→Hp→VK→Prop):Prop :=
 ∀ (pins:List (Addr×Obj)) (s:Shared) (σ:St) (H:Hp) (x:V) (v vl vu:Value) (lo hi:Option Int) (sl:Addr) (Q:VK),Inv X pins σ H s→RelV x v→s.heap.IsSliceOf sl vl vu .none→IsPart vl lo→IsPart vu hi→r x lo hi H Q →
  ∃ T id,typeLookup (.type T) "__getitem__" = pure (some (.builtin id))∧s.TypeIs v T∧wpAny (model X.prog X.w) X.A (getItem v (.ref sl)) (EP X pins σ Q) X.xe s
theorem SlR.or{r r':V→Option Int→Option Int→Hp→VK→Prop}(h:SlR X r)(h':SlR X r'):SlR X (fun x lo hi H Q=>r x lo hi H Q∨r' x lo hi H Q):=by
 intro pins s σ H x v vl vu lo hi sl Q I rx hs pl pu q
 rcases q with q | q
 ·exact h pins s σ H x v vl vu lo hi sl Q I rx hs pl pu q
 ·exact h' pins s σ H x v vl vu lo hi sl Q I rx hs pl pu q
noncomputable def tSl(r:V→Option Int→Option Int→Hp→VK→Prop)(te:TE)(tl th:TO):TE:=fun σ H Q=>te σ H fun x H1=>tl σ H1 fun l H2=>th σ H2 fun u H3=>r x l u H3 Q
theorem pe_slice{r:V→Option Int→Option Int→Hp→VK→Prop}(hr:SlR X r)(he:PE X e te)(hl:PO X lo tl)(hu:PO X hi th):PE X (.Subscript e (.Slice lo hi none p2) pos) (tSl r te tl th):=by
 intro pins s σ H Q I h
 refine Subscript_ (thn (he pins s σ H _ I h) fun v s1 zz0=>?_)
 obtain ⟨x,H1,I1,r1,q1⟩:=zz0
 refine wpAny_Slice (thn (hl pins s1 σ H1 _ I1 q1) fun vl s2 ⟨l,H2,I2,pl,q2⟩=>thn (hu pins s2 σ H2 _ I2 q2) fun vu s3 zz0=>?_)
 obtain ⟨u,H3,I3,pu,q3⟩:=zz0
 rw [evalPart_none]
 refine wpAny_pure ?_
 have I4:Inv X pins σ H3 { s3 with heap:=s3.heap.push { cls:=.type "slice",data:=.fields #[vl,vu,.none] } }:=I3.kept (t':=s3.toks) fun b ob q=>Heap.get?_push_of_some _ q
 obtain ⟨T,id,hT,ht,hg⟩:=hr pins { s3 with heap:=s3.heap.push { cls:=.type "slice",data:=.fields #[vl,vu,.none] } } σ H3 x v vl vu l u s3.heap.objs.size Q I4 r1 (Heap.IsSliceOf.new ..) pl pu q3
 show wpAny (model X.prog X.w) X.A (subscriptTail e (.Slice lo hi none p2) v (.ref s3.heap.objs.size)) (EP X pins σ Q) X.xe { s3 with heap:=s3.heap.push { cls:=.type "slice",data:=.fields #[vl,vu,.none] } }
 exact tail_any (ops:=[.ref s3.heap.objs.size,v]) ht hT hg (by with_unfolding_all rfl)
noncomputable def cutV(xs:List V)(lo hi:Option Int):List V:=(xs.drop (HT.sIx xs.length 0 lo)).take (HT.sIx xs.length xs.length hi - HT.sIx xs.length 0 lo)
theorem cutV_length(xs:List V)(lo hi:Option Int):(cutV xs lo hi).length ≤ xs.length:=by
 unfold cutV
 rw [List.length_take,List.length_drop]
 omega
noncomputable def rSlT(K:PySem.W.Frag):V→Option Int→Option Int→Hp→VK→Prop:=fun x lo hi H Q=>∃ a xs,x = .ref a∧SqT K H a xs ∧
 ¬ (HT.sIx xs.length 0 lo=0∧HT.sIx xs.length xs.length hi=xs.length)∧∀ p,H p=none→Q (.ref p) (upd H p (.tup (cutV xs lo hi)))
theorem sl_tup:SlR X (rSlT X.K):=by
 intro pins s σ H x v vl vu lo hi sl Q I rx hs pl pu h
 obtain ⟨a,xs,rfl,hx,hw,q⟩:=h
 cases rx
 obtain ⟨its,r,ht,hz⟩:=I.tuple hx
 have hlen:its.toArray.size=xs.length:=by rw [List.size_toArray];exact r.length.symm
 refine ⟨"tuple",_,PyProof.Rows.slot_tuple_getitem.lookup,ht.typeIs,?_⟩
 refine HT.getItem_tuple_cut ht hs pl pu (by rw [hlen];exact hw) ?_ (by rw [hlen];exact hz)
 rw [hlen]
 refine ⟨.ref s.heap.objs.size,_,I.laid (t':=s.toks) (o:=.tup (cutV xs lo hi)) (fun b ob q=>Heap.get?_push_of_some _ q) (Nat.le_refl _) ?_,rfl,q _ (I.hok.fresh (Nat.le_refl _))⟩
 exact ⟨Nat.le_trans (cutV_length xs lo hi) hz,_,(r.drop (HT.sIx xs.length 0 lo)).take (HT.sIx xs.length xs.length hi - HT.sIx xs.length 0 lo),IsTup.new _ _⟩
noncomputable def rCatT(K:PySem.W.Frag):R2:=fun x y H Q=>∃ a b xs ys,x = .ref a∧y = .ref b∧SqT K H a xs∧SqT K H b ys∧xs ≠ []∧xs.length + ys.length ≤ sizeLine ∧
 (ys=[]→Q (.ref a) H)∧(ys ≠ []→∀ p,H p=none→Q (.ref p) (upd H p (.tup (xs ++ ys))))
theorem Vals.nil_iff{xs:List V}{us:List Value}(r:Vals xs us):us=[] ↔ xs=[]:=by
 cases r with
 |nil=>simp
 |cons _ _=>simp
theorem op_catT:OpR X (binaryOp .Add) (rCatT X.K):=by
 intro pins s σ H x y v u Q I rx ry h
 obtain ⟨a,b,xs,ys,rfl,rfl,ha,hb,hx,hz,q1,q2⟩:=h
 cases rx
 cases ry
 obtain ⟨its,r1,p1,_⟩:=I.tuple ha
 obtain ⟨its2,r2,p2,_⟩:=I.tuple hb
 refine HT.cat_tup p1 p2 (fun z=>hx (r1.nil_iff.mp z)) (fun z=>⟨.ref a,H,I,rfl,q1 (r2.nil_iff.mp z)⟩) (fun z=>?_) (by rw [← r1.length,← r2.length];exact hz)
 refine ⟨.ref s.heap.objs.size,_,I.laid (t':=s.toks) (o:=.tup (xs ++ ys)) (fun b ob q=>Heap.get?_push_of_some _ q) (Nat.le_refl _) ?_,rfl,q2 (fun w=>z (r2.nil_iff.mpr w)) _ (I.hok.fresh (Nat.le_refl _))⟩
 exact ⟨by rw [List.length_append];exact hz,_,r1.append r2,IsTup.new _ _⟩
end
end L2
namespace L2
open PySem PySem.Spec PyProof.Rows
noncomputable def ixN(n:Nat)(i:Int):Option Nat:=if 0 ≤ i then (if i < n then some i.toNat else none) else if -(n:Int) ≤ i then some (i + n).toNat else none
noncomputable def atI{α:Type}(xs:List α)(i:Int):Option α:=(ixN xs.length i).bind fun j=>xs[j]?
theorem ixN_seq{n:Nat}{i:Int}{j:Nat}(h:ixN n i=some j):seqIndex? i n=some j∧j < n∧-(n:Int) ≤ i∧i < n:=by
 unfold ixN at h
 by_cases h0:0 ≤ i
 ·rw [if_pos h0] at h
  by_cases h1:i < n
  ·rw [if_pos h1] at h
   have e:i.toNat=j:=Option.some.inj h
   exact ⟨by rw [seqIndex_of h0 h1,e],by omega,by omega,h1⟩
  ·rw [if_neg h1] at h;cases h
 ·rw [if_neg h0] at h
  by_cases h1:-(n:Int) ≤ i
  ·rw [if_pos h1] at h
   have e:(i + n).toNat=j:=Option.some.inj h
   exact ⟨by rw [seqIndex_neg (by omega) h1,e],by omega,h1,by omega⟩
  ·rw [if_neg h1] at h;cases h
theorem atI_get{α:Type}{xs:List α}{i:Int}{v:α}(h:atI xs i=some v):∃ j,seqIndex? i xs.length=some j∧xs[j]?=some v∧j < xs.length∧-(xs.length:Int) ≤ i∧i < xs.length:=by
 unfold atI at h
 cases e:ixN xs.length i with
 |none=>rw [e] at h;cases h
 |some j =>
  rw [e] at h
  obtain ⟨h1,h2,h3,h4⟩:=ixN_seq e
  exact ⟨j,h1,h,h2,h3,h4⟩
noncomputable def PlainIx(b:Expr):Prop:=∀ o i,subscripted b false o i=operate [o,i] (getItem o i)
noncomputable def IxR(X:Cx)(r:R2):Prop :=
 ∀ (value slice:Expr) (pins:List (Addr×Obj)) (s:Shared) (σ:St) (H:Hp) (x y:V) (v u:Value) (Q:VK),Inv X pins σ H s→RelV x v→RelV y u→r x y H Q →
  subscripted slice false v u=operate [v,u] (getItem v u)→wpAny (model X.prog X.w) X.A (subscriptTail value slice v u) (EP X pins σ Q) X.xe s
noncomputable def MtR(X:Cx)(id:String)(r:V→List V→Hp→VK→Prop):Prop :=
 ∀ (pins:List (Addr×Obj)) (s:Shared) (σ:St) (H:Hp) (x:V) (xs:List V) (v:Value) (us:List Value) (Q:VK),Inv X pins σ H s→RelV x v→Vals xs us→r x xs H Q →
  wpAny (model X.prog X.w) X.A (call (.builtin id) (v :: us)) (EP X pins σ Q) X.xe s
section
variable {X:Cx} {a b:Expr} {ta tb:TE} {pos:Pos}
theorem IxR.or{r r':R2}(h:IxR X r)(h':IxR X r'):IxR X (fun x y H Q=>r x y H Q∨r' x y H Q):=by
 intro value slice pins s σ H x y v u Q I rx ry q hs
 rcases q with q | q
 ·exact h value slice pins s σ H x y v u Q I rx ry q hs
 ·exact h' value slice pins s σ H x y v u Q I rx ry q hs
theorem pe_ix{r:R2}(hr:IxR X r)(ha:PE X a ta)(hb:PE X b tb)(hs:PlainIx b):PE X (.Subscript a b pos) (tOp r ta tb):=by
 intro pins s σ H Q I h
 exact Subscript_ (binT ha hb I h fun v u s2 x y H2 I2 rx ry q=>hr a b pins s2 σ H2 x y v u Q I2 rx ry q (hs _ _))
noncomputable def rIxL(K:PySem.W.Frag):R2:=fun x y H Q=>∃ p xs i v,x = .ref p∧y = .int i∧SqL K H p xs∧atI xs i=some v∧Q v H
noncomputable def rIxT(K:PySem.W.Frag):R2:=fun x y H Q=>∃ p xs i v,x = .ref p∧y = .int i∧SqT K H p xs∧atI xs i=some v∧Q v H
noncomputable def rIxS:R2:=fun x y H Q=>∃ z i c,x = .str z∧y = .int i∧z.length ≤ sizeLine∧atI z.cps.toList i=some c∧Q (.str ⟨#[c]⟩) H
theorem ix_list:IxR X (rIxL X.K):=by
 intro value slice pins s σ H x y v u Q I rx ry h hs
 obtain ⟨p,xs,i,z,rfl,rfl,hq,he,q⟩:=h
 cases rx
 obtain ⟨t,rfl⟩:=ry
 obtain ⟨its,r,pl,hz⟩:=I.list hq
 obtain ⟨j,h1,h2,h3,h4,h5⟩:=atI_get he
 obtain ⟨w,ew,rw'⟩:=r.get h2
 have hl:=r.length
 have hn:=line63
 have fin:EP X pins σ Q w s:=⟨z,H,I,rw',q⟩
 by_cases h0:0 ≤ i
 ·have hj:i.toNat=j:=by
   rw [seqIndex_of h0 h5] at h1
   exact Option.some.inj h1
  exact item_listR pl.isList h0 (by omega) (by rw [hj];simpa using ew) fin hs
 ·have hj:(i + (its.toArray.size:Int)).toNat=j:=by
   rw [seqIndex_neg (by omega) h4] at h1
   rw [List.size_toArray,← hl]
   exact Option.some.inj h1
  exact subscriptTail_builtinR (x:=w) pl.isList.typeIs slot_list_getitem.lookup
   (wpAny_getItem_list_neg (Q:=fun r s'=>r=w∧EP X pins σ Q r s') pl.isList (by omega) (by rw [List.size_toArray] <;> omega) (by omega) (by rw [hj];simpa using ew) ⟨rfl,fin⟩) hs
theorem ix_tup:IxR X (rIxT X.K):=by
 intro value slice pins s σ H x y v u Q I rx ry h hs
 obtain ⟨p,xs,i,z,rfl,rfl,hq,he,q⟩:=h
 cases rx
 obtain ⟨t,rfl⟩:=ry
 obtain ⟨its,r,pl,hz⟩:=I.tuple hq
 obtain ⟨j,h1,h2,h3,h4,h5⟩:=atI_get he
 obtain ⟨w,ew,rw'⟩:=r.get h2
 have hl:=r.length
 have hn:=line63
 have fin:EP X pins σ Q w s:=⟨z,H,I,rw',q⟩
 exact subscriptTail_builtinR (x:=w) pl.typeIs slot_tuple_getitem.lookup
  (getItem_tuple (j:=j) (Q:=fun r s'=>r=w∧EP X pins σ Q r s') pl (by omega) (by omega) (by rw [List.size_toArray,← hl];exact h1) (by simpa using ew) ⟨rfl,fin⟩) hs
theorem ix_str:IxR X rIxS:=by
 intro value slice pins s σ H x y v u Q I rx ry h hs
 obtain ⟨z,i,c,rfl,rfl,hz,he,q⟩:=h
 obtain ⟨t,rfl⟩:=rx
 obtain ⟨t',rfl⟩:=ry
 obtain ⟨j,h1,h2,h3,h4,h5⟩:=atI_get he
 have hl:z.cps.toList.length=z.length:=by simp [Str.length]
 rw [hl] at h1 h4 h5
 have hn:=line63
 exact tail_any (typeIs_str s z t) slot_str_getitem.lookup (getItem_str (c:=c) (by
  have e1:decide (i < -(2 ^ 63:Int))=false:=decide_eq_false (by omega)
  have e2:decide (i ≥ 2 ^ 63)=false:=decide_eq_false (by omega)
  rw [e1,e2,Bool.or_false]) (by rw [h1];simpa using h2) ⟨.str ⟨#[c]⟩,H,I.tok _,⟨_,rfl⟩,q⟩) hs
noncomputable def rIx(K:PySem.W.Frag):R2:=fun x y H Q=>rIxL K x y H Q∨rIxT K x y H Q∨rIxS x y H Q
theorem ix_seq:IxR X (rIx X.K):=ix_list.or (ix_tup.or ix_str)
theorem mapSeq_set(its:List Value)(n j:Nat)(u:Value):Obj.mapSeq (·.setIfInBounds j u) { cls:=.type "list",data:=.seq its.toArray n }={ cls:=.type "list",data:=.seq (its.set j u).toArray n }:=by
 simp [Obj.mapSeq]
theorem Inv.lst{pins:List (Addr×Obj)}{σ:St}{H:Hp}{s:Shared}{p:Addr}{xs:List V}(I:Inv X pins σ H s)(h:H p=some (.lst xs)) :
  ∃ (its:List Value) (n:Nat),Vals xs its∧s.heap.get? p=some { cls:=.type "list",data:=.seq its.toArray n }∧xs.length ≤ sizeLine:=by
 obtain ⟨z,its,n,r,e⟩:=I.hok p _ h
 exact ⟨its,n,r,e,z⟩
theorem Inv.lstUpd{pins:List (Addr×Obj)}{σ:St}{H:Hp}{s:Shared}{p:Addr}{xs ys:List V}{its its':List Value}{n n':Nat}{f:Obj→Obj}(I:Inv X pins σ H s)(h:H p=some (.lst xs))
  (ho:s.heap.get? p=some { cls:=.type "list",data:=.seq its.toArray n }) (hf:f { cls:=.type "list",data:=.seq its.toArray n }={ cls:=.type "list",data:=.seq its'.toArray n' }) (r:Vals ys its') (hz:ys.length ≤ sizeLine) (t:Nat) :
  Inv X pins σ (upd H p (.lst ys)) { s with heap:=s.heap.update p f,toks:=t }:=by
 have e:(s.heap.update p f).get? p=some { cls:=.type "list",data:=.seq its'.toArray n' }:=by
  rw [Heap.get?_update_self f ho (by rw [hf] <;> rfl),hf]
 refine I.write (x:=p) (e:=p) (by rw [h];trivial) (.inl rfl) (fun b u hb q=>(Heap.get?_update_other _ _ (Ne.symm hb)).trans q) ⟨_,e⟩ ?_
 exact ⟨hz,its',n',r,e⟩
noncomputable def rSetL:V→V→V→Hp→(Hp→Prop)→Prop:=fun o i v H Q=>∃ p xs k j,o = .ref p∧i = .int k∧H p=some (.lst xs)∧ixN xs.length k=some j∧Q (upd H p (.lst (xs.set j v)))
theorem set_list:PSet X rSetL:=by
 intro pins s σ H o i v ov iv u Q I ro ri rv h
 obtain ⟨p,xs,k,j,rfl,rfl,hp,hj,q⟩:=h
 cases ro
 obtain ⟨t,rfl⟩:=ri
 obtain ⟨its,n,r,ho,hz⟩:=I.lst hp
 obtain ⟨h1,h2,h3,h4⟩:=ixN_seq hj
 have hl:=r.length
 have hn:=line63
 have I':Inv X pins σ (upd H p (.lst (xs.set j v))) { s with heap:=s.heap.update p (Obj.mapSeq (·.setIfInBounds j u)) } :=
  I.lstUpd hp ho (mapSeq_set its n j u) (r.set rv j) (by rw [List.length_set];exact hz) s.toks
 by_cases h0:0 ≤ k
 ·have hk:k.toNat=j:=by
   rw [seqIndex_of h0 h4] at h1
   exact Option.some.inj h1
  exact PySem.W.ki_setAt ho h0 (by omega) (by rw [List.size_toArray,← hl];exact h4) (by rw [hk];exact ⟨_,I',q⟩)
 ·have hk:(k + (its.toArray.size:Int)).toNat=j:=by
   rw [seqIndex_neg (by omega) h3] at h1
   rw [List.size_toArray,← hl]
   exact Option.some.inj h1
  exact PySem.W.ki_setBack ho (by omega) (by rw [List.size_toArray,← hl];exact h3) (by omega) (by rw [hk];exact ⟨_,I',q⟩)
theorem slice_bounds(lo hi:Option Int)(n:Nat):(sliceBounds lo hi none n).1=((HT.sIx n 0 lo:Nat):Int)∧(sliceBounds lo hi none n).2.1=((HT.sIx n n hi:Nat):Int)∧(sliceBounds lo hi none n).2.2=1:=by
 refine ⟨?_,?_,rfl⟩
 ·cases lo with
  |none=>simp [sliceBounds,HT.sIx]
  |some i =>
   simp only [sliceBounds,HT.sIx,Option.getD_none,show (1:Int) > 0 by decide,if_true]
   by_cases h:i < 0
   ·simp only [h,if_true] <;> omega
   ·simp only [h,if_false] <;> omega
 ·cases hi with
  |none=>simp [sliceBounds,HT.sIx]
  |some i =>
   simp only [sliceBounds,HT.sIx,Option.getD_none,show (1:Int) > 0 by decide,if_true]
   by_cases h:i < 0
   ·simp only [h,if_true] <;> omega
   ·simp only [h,if_false] <;> omega
theorem slicePick_cut(its:List Value)(lo hi:Option Int):slicePick its.toArray lo hi none=((its.drop (HT.sIx its.length 0 lo)).take (HT.sIx its.length its.length hi - HT.sIx its.length 0 lo)).toArray:=by
 obtain ⟨h1,h2,h3⟩:=slice_bounds lo hi its.toArray.size
 unfold slicePick
 rw [h1,h2,h3]
 simp only [sliceRange_one,pick_run,List.size_toArray] <;> rfl
noncomputable def rSlL(K:PySem.W.Frag):V→Option Int→Option Int→Hp→VK→Prop:=fun x lo hi H Q=>∃ a xs,x = .ref a∧SqL K H a xs∧∀ p,H p=none→Q (.ref p) (upd H p (.lst (cutV xs lo hi)))
theorem sl_list:SlR X (rSlL X.K):=by
 intro pins s σ H x v vl vu lo hi sl Q I rx hs pl pu h
 obtain ⟨a,xs,rfl,hx,q⟩:=h
 cases rx
 obtain ⟨its,r,ht,hz⟩:=I.list hx
 have hlen:=r.length
 refine ⟨"list",_,slot_list_getitem.lookup,ht.isList.typeIs,?_⟩
 refine wpAny_getItem_list_slice ht.isList hs pl pu .none (by simp) ?_ (by rw [List.size_toArray] <;> omega)
 rw [slicePick_cut,← hlen]
 refine ⟨.ref s.heap.objs.size,_,I.laid (t':=s.toks) (o:=.lst (cutV xs lo hi)) (fun b ob q=>Heap.get?_push_of_some _ q) (Nat.le_refl _) ?_,rfl,q _ (I.hok.fresh (Nat.le_refl _))⟩
 exact ⟨Nat.le_trans (cutV_length xs lo hi) hz,_,0,(r.drop (HT.sIx xs.length 0 lo)).take (HT.sIx xs.length xs.length hi - HT.sIx xs.length 0 lo),Heap.get?_push_size _ rfl⟩
noncomputable def flatV:V→Bool
 |.non=>true
 |.bl _=>true
 |.int _=>true
 |.str _=>true
 |_=>false
noncomputable def eqV:V→V→Bool
 |.non,.non=>true
 |.bl a,.bl b=>a == b
 |.bl a,.int b=>(if a then 1 else 0) == b
 |.int a,.bl b=>a == (if b then 1 else 0)
 |.int a,.int b=>a == b
 |.str a,.str b=>a == b
 |_,_=>false
theorem eqAt_V{A:Around}{s:Shared}{y x:V}{u v:Value}(ry:RelV y u)(rx:RelV x v)(fy:flatV y=true)(fx:flatV x=true):SeqAt.EqAt A s u v (eqV y x):=by
 cases y with
 |non =>
  cases ry
  cases x with
  |non=>cases rx;exact SeqAt.EqAt.same _
  |bl b=>cases rx;exact SeqAt.EqAt.none_bool b
  |int b=>obtain ⟨t,rfl⟩:=rx;exact SeqAt.EqAt.none_int b t
  |str b=>obtain ⟨t,rfl⟩:=rx;exact SeqAt.EqAt.none_str b t
  |_=>exact absurd (show false=true from fx) Bool.false_ne_true
 |bl a =>
  cases ry
  cases x with
  |non=>cases rx;exact SeqAt.EqAt.bool_none a
  |bl b=>cases rx;exact SeqAt.EqAt.bool_bool a b
  |int b=>obtain ⟨t,rfl⟩:=rx;exact SeqAt.EqAt.bool_int a b t
  |str b=>obtain ⟨t,rfl⟩:=rx;exact SeqAt.EqAt.bool_str a b t
  |_=>exact absurd (show false=true from fx) Bool.false_ne_true
 |int a =>
  obtain ⟨t',rfl⟩:=ry
  cases x with
  |non=>cases rx;exact SeqAt.EqAt.int_none a t'
  |bl b=>cases rx;exact SeqAt.EqAt.int_bool a t' b
  |int b=>obtain ⟨t,rfl⟩:=rx;exact SeqAt.EqAt.int_int a t' b t
  |str b=>obtain ⟨t,rfl⟩:=rx;exact SeqAt.EqAt.int_str a t' b t
  |_=>exact absurd (show false=true from fx) Bool.false_ne_true
 |str a =>
  obtain ⟨t',rfl⟩:=ry
  cases x with
  |non=>cases rx;exact SeqAt.EqAt.str_none a t'
  |bl b=>cases rx;exact SeqAt.EqAt.str_bool a t' b
  |int b=>obtain ⟨t,rfl⟩:=rx;exact SeqAt.EqAt.str_int a t' b t
  |str b=>obtain ⟨t,rfl⟩:=rx;exact SeqAt.EqAt.str_str a t' b t
  |_=>exact absurd (show false=true from fx) Bool.false_ne_true
 |_=>exact absurd (show false=true from fy) Bool.false_ne_true
noncomputable def eqU(x:V)(u:Value):Bool:=match u with
 |.none=>eqV .non x
 |.bool b=>eqV (.bl b) x
 |.int i _=>eqV (.int i) x
 |.str z _=>eqV (.str z) x
 |_=>false
theorem eqU_of{x y:V}{u:Value}(r:RelV y u)(f:flatV y=true):eqU x u=eqV y x:=by
 cases y with
 |non=>cases r;rfl
 |bl b=>cases r;rfl
 |int i=>obtain ⟨t,rfl⟩:=r;rfl
 |str z=>obtain ⟨t,rfl⟩:=r;rfl
 |_=>exact absurd (show false=true from f) Bool.false_ne_true
theorem any_eqU{x:V}:∀ {xs:List V} {us:List Value},Vals xs us→xs.all flatV=true→us.any (eqU x)=xs.any fun y=>eqV y x
 |_,_,.nil,_=>rfl
 |y :: xs,u :: us,.cons r t,f=>by
  rw [List.all_cons,Bool.and_eq_true] at f
  rw [List.any_cons,List.any_cons,eqU_of r f.1,any_eqU t f.2]
theorem mem_eqAt{A:Around}{s:Shared}{x:V}{v:Value}(rx:RelV x v)(fx:flatV x=true):∀ {xs:List V} {us:List Value},Vals xs us→xs.all flatV=true→∀ u ∈ us,SeqAt.EqAt A s u v (eqU x u)
 |_,_,.nil,_=>fun u hu=>by cases hu
 |y :: xs,u :: us,.cons r t,f=>fun u' hu=>by
  rw [List.all_cons,Bool.and_eq_true] at f
  rcases List.mem_cons.mp hu with rfl | hu
  ·rw [eqU_of r f.1];exact eqAt_V r rx f.1 fx
  ·exact mem_eqAt rx fx t f.2 u' hu
noncomputable def inV(x:V)(xs:List V):Bool:=xs.any fun y=>eqV y x
noncomputable def rIn(K:PySem.W.Frag)(neg:Bool):R2:=fun x y H Q=>∃ p xs,y = .ref p∧(SqL K H p xs∨SqT K H p xs)∧flatV x=true∧xs.all flatV=true∧Q (.bl (if neg then !inV x xs else inV x xs)) H
theorem op_in_seq:OpR X (compareOp .In) (rIn X.K false):=by
 intro pins s σ H x y v u Q I rx ry h
 obtain ⟨p,xs,rfl,hq,fx,fs,q⟩:=h
 cases ry
 rcases hq with hq | hq
 ·obtain ⟨its,r,pl,hz⟩:=I.list hq
  refine SeqAt.in_listAt (eqU x) pl.isList (fun w hw=>mem_eqAt rx fx r fs w (by simpa using hw)) ⟨.bl _,H,I,rfl,?_⟩
  rw [show its.toArray.any (eqU x)=its.any (eqU x) by simp,any_eqU r fs]
  exact q
 ·obtain ⟨its,r,pl,hz⟩:=I.tuple hq
  refine SeqAt.in_tupleAt (eqU x) pl (fun w hw=>mem_eqAt rx fx r fs w (by simpa using hw)) ⟨.bl _,H,I,rfl,?_⟩
  rw [show its.toArray.any (eqU x)=its.any (eqU x) by simp,any_eqU r fs]
  exact q
theorem call_list_of:CallR X (.type "list") (fun xs H Q=>∃ p ys,xs=[.ref p]∧(SqL X.K H p ys∨SqT X.K H p ys)∧∀ l,H l=none→Q (.ref l) (upd H l (.lst ys))):=by
 intro pins s σ H xs us Q I r h
 obtain ⟨p,ys,rfl,hq,q⟩:=h
 obtain ⟨u,rfl,rx⟩:=vals1 r
 cases rx
 have fin:∀ (its:List Value),Vals ys its→ys.length ≤ sizeLine→∀ (h':Heap) (c':Nat),(∀ b o',s.heap.get? b=some o'→h'.get? b=some o') →
   h'.get? s.heap.objs.size=some { cls:=.type "list",dict:=none,data:=.seq its.toArray c',slots:=#[] }→EP X pins σ Q (.ref s.heap.objs.size) { s with heap:=h' }:=fun its r' hz h' c' kp e =>
  ⟨.ref s.heap.objs.size,_,I.laid (t':=s.toks) kp (Nat.le_refl _) (show ObjOk X.prog X.w _ h' _ (.lst ys) from ⟨hz,its,c',r',e⟩),rfl,q _ (I.hok.fresh (Nat.le_refl _))⟩
 rcases hq with hq | hq
 ·obtain ⟨its,r',pl,hz⟩:=I.list hq
  have hlen:=r'.length
  obtain ⟨o,ho,hc,n,hd⟩:=pl.isList
  exact call_list_seq p (.inl rfl) ho hc hd (fun h' c' kp e=>fin its r' hz h' c' kp e) (by simp only [List.size_toArray] <;> omega)
 ·obtain ⟨its,r',pl,hz⟩:=I.tuple hq
  have hlen:=r'.length
  obtain ⟨o,ho,hc,n,hd⟩:=pl
  exact call_list_seq p (.inr rfl) ho hc hd (fun h' c' kp e=>fin its r' hz h' c' kp e) (by simp only [List.size_toArray] <;> omega)
theorem call_tuple_of:CallR X (.type "tuple") (fun xs H Q=>∃ p ys,xs=[.ref p]∧((SqL X.K H p ys∧∀ l,H l=none→Q (.ref l) (upd H l (.tup ys)))∨(SqT X.K H p ys∧Q (.ref p) H))):=by
 intro pins s σ H xs us Q I r h
 obtain ⟨p,ys,rfl,h⟩:=h
 obtain ⟨u,rfl,rx⟩:=vals1 r
 cases rx
 rcases h with ⟨hq,q⟩ | ⟨hq,q⟩
 ·obtain ⟨its,r',pl,hz⟩:=I.list hq
  have hlen:=r'.length
  refine call_tuple_list pl.isList (fun h' kp=>?_) (by simp only [List.size_toArray] <;> omega)
  have I1:Inv X pins σ H { s with heap:=h' }:=I.kept (t':=s.toks) kp
  have I2:Inv X pins σ (upd H h'.objs.size (.tup ys)) { s with heap:=h'.push { cls:=.type "tuple",data:=.seq its.toArray } } :=
   I1.laid (t':=s.toks) (fun b o e=>Heap.get?_push_of_some _ e) (Nat.le_refl _) (show ObjOk X.prog X.w _ _ _ (.tup ys) from ⟨hz,its,r',IsTup.new _ _⟩)
  exact ⟨.ref h'.objs.size,_,I2,rfl,q _ (I1.hok.fresh (Nat.le_refl _))⟩
 ·obtain ⟨its,r',pl,hz⟩:=I.tuple hq
  exact call_tuple_same pl ⟨.ref p,H,I,rfl,q⟩
noncomputable def tyV(K:PySem.W.Frag)(T:String)(x:V)(H:Hp):Prop:=match x with
 |.str _=>T = "str"
 |.int _=>T = "int"
 |.ref p=>(T = "list"∧∃ xs,SqL K H p xs)∨(T = "tuple"∧∃ o,K.lookup p=some o∧o.cls = .type "tuple"∧o.dict=none) ∨
   (T = "dict"∧((∃ kvs,H p=some (.dK kvs))∨∃ kvs,H p=some (.dT kvs)))∨(T = "set"∧∃ S n,H p=some (.set S n))
 |_=>False
theorem tyV_is{pins:List (Addr×Obj)}{σ:St}{H:Hp}{s:Shared}{T:String}{x:V}{v:Value}(I:Inv X pins σ H s)(r:RelV x v)(ty:tyV X.K T x H) :
  s.TypeIs v T∧∀ a,v = .ref a→∃ ob,s.heap.get? a=some ob∧ob.dict=none:=by
 cases x with
 |str z =>
  obtain ⟨t,rfl⟩:=r
  cases (show T = "str" from ty)
  exact ⟨typeIs_str s z t,fun _ e=>nomatch e⟩
 |int i =>
  obtain ⟨t,rfl⟩:=r
  cases (show T = "int" from ty)
  exact ⟨typeIs_int s i t,fun _ e=>nomatch e⟩
 |ref p =>
  cases r
  rcases ty with ⟨rfl,xs,hq⟩ | ⟨rfl,o,hk,hc,hd⟩ | ⟨rfl,hk⟩ | ⟨rfl,S,n,hk⟩
  ·obtain ⟨its,_,pl,_⟩:=I.list hq
   refine ⟨pl.isList.typeIs,fun a e=>?_⟩
   cases e
   obtain ⟨o,n,e,c,hd,_⟩:=pl
   exact ⟨o,e,hd⟩
  ·refine ⟨⟨o,I.kIn p o hk,hc⟩,fun a e=>?_⟩
   cases e
   exact ⟨o,I.kIn _ o hk,hd⟩
  ·have z:∃ o,s.heap.get? p=some o∧o.ExactDict:=by
    rcases hk with ⟨kvs,hk⟩ | ⟨kvs,hk⟩
    ·obtain ⟨_,_,_,_,o,_,_,e,ex,_⟩:=I.hok p _ hk
     exact ⟨o,e,ex⟩
    ·obtain ⟨_,_,_,_,o,_,_,e,ex,_⟩:=I.hok p _ hk
     exact ⟨o,e,ex⟩
   obtain ⟨o,e,ex⟩:=z
   refine ⟨⟨o,e,ex.1⟩,fun a e2=>?_⟩
   cases e2
   exact ⟨o,e,ex.2.1⟩
  ·obtain ⟨o,_,_,_,e,ex,_⟩:=I.hok p _ hk
   refine ⟨⟨o,e,ex.1⟩,fun a e2=>?_⟩
   cases e2
   exact ⟨o,e,ex.2.1⟩
 |_=>exact False.elim ty
noncomputable def tBM0(K:PySem.W.Frag)(T:String)(r:V→List V→Hp→VK→Prop)(to:TE):TE:=fun σ H Q=>to σ H fun x H1=>tyV K T x H1∧r x [] H1 Q
noncomputable def tBM(K:PySem.W.Frag)(T:String)(r:V→List V→Hp→VK→Prop)(to:TE)(t:TA):TE:=fun σ H Q=>to σ H fun x H1=>tyV K T x H1∧t σ H1 fun xs H2=>r x xs H2 Q
variable {o e:Expr} {es:List Expr} {to:TE} {t:TA} {name:Str} {apos cpos:Pos} {T id:String} {r:V→List V→Hp→VK→Prop}
theorem pe_bm0(pa:PlainAttrs T)(slot:Slot T name id)(hty:typeOf (.builtin id)=pure (.type "method_descriptor"))(hm:MtR X id r)(ho:PE X o to)
  (hbase:attributeBase o name X.env (eval o X.env)=eval o X.env:=by rfl) (hline:(apos.endLine == cpos.line)=true:=by rfl):PE X (.Call (.Attribute o name apos) [] [] cpos) (tBM0 X.K T r to):=by
 intro pins s σ H Q I h
 refine wpAny_Call_method0_late hbase hline (thn (ho pins s σ H _ I h) fun v s1 zz0=>?_)
 obtain ⟨x,H1,I1,r1,ty,q1⟩:=zz0
 obtain ⟨h1,h2⟩:=tyV_is I1 r1 ty
 exact ⟨T,id,pa,slot,hty,h1,h2,Calls.callWith_builtin rfl (PySem.evalArgs_none (hm pins s1 σ H1 x [] v [] Q I1 r1 .nil q1))⟩
theorem pe_bm(pa:PlainAttrs T)(slot:Slot T name id)(hty:typeOf (.builtin id)=pure (.type "method_descriptor"))(hm:MtR X id r)(ho:PE X o to)(ha:PA X (e :: es) t)
  (hbase:attributeBase o name X.env (eval o X.env)=eval o X.env:=by rfl)
  (hfew:((backTo cpos (starEach (e :: es) X.env)).all (fun x=>!x.1) && (backToKw cpos (keywordEach [] X.env)).all (fun x=>x.1.isSome)
   && decide ((e :: es).length + ([]:List Keyword).length + (if ([]:List Keyword).isEmpty then 0 else 1) < 30))=true:=by rfl)
  (hline:(apos.endLine == cpos.line)=true:=by rfl) (hs:starEach (e :: es) X.env=(false,eval e X.env) :: starEach es X.env:=by rfl) (hplain:(backTo cpos (starEach es X.env)).any (·.1)=false:=by rfl) :
  PE X (.Call (.Attribute o name apos) (e :: es) [] cpos) (tBM X.K T r to t):=by
 intro pins s σ H Q I h
 refine wpAny_Call_method_late hbase hfew hline rfl (thn (ho pins s σ H _ I h) fun v s1 zz0=>?_)
 obtain ⟨x,H1,I1,r1,ty,q1⟩:=zz0
 obtain ⟨h1,h2⟩:=tyV_is I1 r1 ty
 refine ⟨T,id,pa,slot,hty,h1,h2,?_⟩
 have hA:=ha cpos pins s1 σ H1 _ I1 q1
 rw [hs] at hA ⊢
 refine Calls.callWith_builtin (by show (false || (backTo cpos (starEach es X.env)).any (·.1))=false;rw [hplain] <;> rfl) (Calls.evalArgs_plain ?_)
 exact thn hA fun us s2 ⟨vs,H2,I2,r2,q2⟩=>hm pins s2 σ H2 x vs v us Q I2 r1 r2 q2
end
end L2
namespace L2
open PySem PySem.Spec PyProof.Rows
noncomputable def MtM(X:Cx)(id:String)(r:V→List V→Hp→VK→Prop):Prop :=
 ∀ (pins:List (Addr×Obj)) (s:Shared) (σ:St) (H:Hp) (x:V) (xs:List V) (v:Value) (us:List Value) (Q:VK),Inv X pins σ H s→RelV x v→Vals xs us→r x xs H Q →
  wpAny (model X.prog X.w) X.A (call (.builtin id) (v :: us)) (EP X pins σ Q) X.xe s
theorem Vals.one{x:V}{us:List Value}(h:Vals [x] us):∃ u,us=[u]∧RelV x u:=by
 cases h with
 |cons r t=>cases t;exact ⟨_,rfl,r⟩
section
variable {X:Cx} {pins:List (Addr×Obj)} {σ:St} {H:Hp} {s:Shared} {l b:Addr} {xs ys zs:List V}
theorem Inv.lset{its its':List Value}{n:Nat}{f:Array Value→Array Value}{t':Nat}(I:Inv X pins σ H s)(hH:H l=some (.lst xs))
  (e:s.heap.get? l=some { cls:=.type "list",data:=.seq its.toArray n }) (hf:f its.toArray=its'.toArray) (hv:Vals ys its') (hz:ys.length ≤ sizeLine) :
  Inv X pins σ (upd H l (.lst ys)) { s with heap:=s.heap.update l (Obj.mapSeq f),toks:=t' }:=by
 have q:=PySem.IsL.update e f
 rw [hf] at q
 refine I.write (x:=l) (e:=l) (by rw [hH];exact trivial) (.inl rfl) (fun b' u hb hu=>(Heap.get?_update_other s.heap (Obj.mapSeq f) (Ne.symm hb)).trans hu) ⟨_,q⟩ ?_
 exact ⟨hz,its',_,hv,q⟩
theorem Inv.lnew{its:List Value}{t':Nat}(I:Inv X pins σ H s)(hv:Vals ys its)(hz:ys.length ≤ sizeLine) :
  Inv X pins σ (upd H s.heap.objs.size (.lst ys)) { s with heap:=s.heap.push { cls:=.type "list",data:=.seq its.toArray },toks:=t' } :=
 I.laid (fun _ _ q=>Heap.get?_push_of_some _ q) (Nat.le_refl _) ⟨hz,its,0,hv,Heap.get?_push_size _ rfl⟩
theorem Inv.fresh(I:Inv X pins σ H s):H s.heap.objs.size=none:=I.hok.fresh (Nat.le_refl _)
theorem Inv.lstM(I:Inv X pins σ H s)(hH:H l=some (.lst xs)):xs.length ≤ sizeLine∧∃ (its:List Value) (n:Nat),Vals xs its∧xs.length=its.length∧s.heap.get? l=some { cls:=.type "list",data:=.seq its.toArray n }:=by
 obtain ⟨z,its,n,r,e⟩:=I.hok l _ hH
 exact ⟨z,its,n,r,r.length,e⟩
theorem notLongL{n:Nat}(h:n ≤ sizeLine):Builtin.List.listTooLong n=false:=by
 unfold Builtin.List.listTooLong
 exact decide_eq_false (by omega)
end
section
variable {X:Cx}
noncomputable def rAppend:V→List V→Hp→VK→Prop:=fun x vs H Q=>∃ l xs y,x = .ref l∧vs=[y]∧H l=some (.lst xs)∧xs.length < sizeLine∧Q .non (upd H l (.lst (xs ++ [y])))
theorem mt_append:MtM X "list.append" rAppend:=by
 intro pins s σ H x vs v us Q I rx rv h
 obtain ⟨l,xs,y,rfl,rfl,hH,hz,q⟩:=h
 cases rx
 obtain ⟨u,rfl,ru⟩:=rv.one
 obtain ⟨z,its,n,r,hl,e⟩:=I.lstM hH
 refine call_meets F.slot_list_append ⟨_,e,rfl⟩ F.entry_list_append (F.args_list_append_2 _ _) (PySem.list_append l its.toArray n u (by rw [List.size_toArray];omega)) ⟨e,?_⟩
 refine ⟨.non,_,I.lset (its':=its ++ [u]) hH e (by simp) (r.append (.cons ru .nil)) ?_,rfl,q⟩
 rw [List.length_append,List.length_singleton]
 omega
noncomputable def rExtend:V→List V→Hp→VK→Prop:=fun x vs H Q=>∃ l b xs zs,x = .ref l∧vs=[.ref b]∧H l=some (.lst xs)∧H b=some (.lst zs)∧xs.length + zs.length ≤ sizeLine∧Q .non (upd H l (.lst (xs ++ zs)))
theorem mt_extend:MtM X "list.extend" rExtend:=by
 intro pins s σ H x vs v us Q I rx rv h
 obtain ⟨l,b,xs,zs,rfl,rfl,hH,hB,hz,q⟩:=h
 cases rx
 obtain ⟨u,rfl,ru⟩:=rv.one
 cases ru
 obtain ⟨z,its,n,r,hl,e⟩:=I.lstM hH
 obtain ⟨z2,its2,n2,r2,hl2,e2⟩:=I.lstM hB
 have hsz:its.toArray.size + its2.toArray.size ≤ sizeLine:=by rw [List.size_toArray,List.size_toArray];omega
 have hlong:¬ (!its.toArray.isEmpty && Builtin.List.listTooLong (its.toArray.size + its2.toArray.size))=true:=by
  rw [notLongL hsz,Bool.and_false]
  exact Bool.false_ne_true
 refine call_meets F.slot_list_extend ⟨_,e,rfl⟩ F.entry_list_extend (F.args_list_extend_2 _ _)
  (AutoSeq1.list_extend_list_list_0 l its.toArray n b its2.toArray n2 hlong (by rw [List.size_toArray];omega) (by omega)) ⟨e,e2,?_⟩
 refine ⟨.non,_,I.lset (its':=its ++ its2) hH e (by simp) (r.append r2) ?_,rfl,q⟩
 rw [List.length_append]
 omega
noncomputable def rCat:R2:=fun x y H Q=>∃ l b xs zs,x = .ref l∧y = .ref b∧H l=some (.lst xs)∧H b=some (.lst zs)∧xs.length + zs.length ≤ sizeLine∧∀ p,H p=none→Q (.ref p) (upd H p (.lst (xs ++ zs)))
theorem op_cat:OpR X (binaryOp .Add) rCat:=by
 intro pins s σ H x y v u Q I rx ry h
 obtain ⟨l,b,xs,zs,rfl,rfl,hH,hB,hz,q⟩:=h
 cases rx
 cases ry
 obtain ⟨z,its,n,r,hl,e⟩:=I.lstM hH
 obtain ⟨z2,its2,n2,r2,hl2,e2⟩:=I.lstM hB
 refine PySem.P.add_list e e2 ?_ (by rw [List.size_toArray,List.size_toArray];omega)
 have ea:its.toArray ++ its2.toArray=(its ++ its2).toArray:=by simp
 rw [ea]
 exact ⟨.ref _,_,I.lnew (t':=s.toks) (r.append r2) (by rw [List.length_append];omega),rfl,q _ I.fresh⟩
end
section
variable {prog:Program} {w:World} {A:Around} {E:Value→Shared→Prop} {s:Shared}
end
section
variable {X:Cx}
end
end L2
namespace Att
open PySem PySem.W PySem.Calls PyProof.Rows
theorem ints_of_wellAll{P:Params}{h:Heap}:∀ (ns:List Int) (vs:List Value),WellAll P h vs (ns.map WData.int)→IntsAre vs ns:=by
 intro ns
 induction ns with
 |nil =>
  intro vs w
  rw [List.map_nil] at w
  cases w
  exact .nil
 |cons n ns ih =>
  intro vs w
  rw [List.map_cons] at w
  cases w with
  |cons a b =>
   cases a
   exact .cons _ _ (ih _ b)
theorem script_of{l:OpenLaw}{n:Nat}(hn:l.most=some n){P:Params}{h:Heap}{args:List WData}{vals:List Value}
  (hpre:l.row.toRowW.claim.pre args=true) (hwl:WellAll P h vals args) :
  ∃ a vs ns,vals=[Value.ref a]∧args=[WData.list (ns.map WData.int)]∧h.get? a=some { cls:=.type "list",data:=.seq vs.toArray }∧IntsAre vs ns∧ns.length ≤ n:=by
 have hsh:WShape.hasAll [] args [.list .int]=true:=(pre_splitW hpre).1
 have hc:l.pre.holds [] { args:=args }=true:=(pre_splitW hpre).2
 obtain ⟨d,r,rfl,h1,h2⟩:=hasAllW_cons hsh
 obtain rfl:=hasAllW_nil h2
 obtain ⟨xs,rfl,h3⟩:=hasW_list h1
 obtain ⟨ns,rfl⟩:=items_int h3
 have hlen:ns.length ≤ n:=by
  unfold OpenLaw.pre at hc
  have h4:(WTm.not (.lt (.lit (.int (n:Int))) (.len (.arg 0)))).holds [] { args:=[.list (ns.map .int)] }=true:=by
   have h4:=(holds_andW hc).1
   rw [hn] at h4
   exact h4
  have h5:=condW_of h4 (w_not (w_lt w_lit (w_len_list (w_arg rfl))))
  rw [List.length_map] at h5
  refine Nat.le_of_not_lt fun q=>?_
  have q':(n:Int) < ((ns.length:Nat):Int):=by omega
  first
   |(rw [decide_eq_true q'] at h5;exact absurd h5 (by decide))
   |(simp at h5;omega)
 cases hwl with
 |cons w1 w2 =>
  cases w2
  cases w1 with
  |list ho hall=>exact ⟨_,_,ns,rfl,rfl,ho,ints_of_wellAll ns _ hall,hlen⟩
theorem post_true(l:OpenLaw)(args:List WData):l.row.toRowW.claim.post args (.bool true) args=true :=
 postW_of (r:=l.row.toRowW) (X:=(true == true))
  (show WShape.has [] (.bool true) .bool=true by first | rfl | decide | simp [WShape.has,WShape.arms,WShape.armsAll])
  (show (WTm.eq .res (.lit (.bool true))).value [] { args:=args,res:=some (.bool true),after:=args }=some (.bool (true == true)) from w_eq_bool (w_res rfl) w_lit) rfl
section
variable {prog:Program} {w:World} {A:Around} {E:Value→Shared→Prop} {s:Shared} {K:Frag}
end
end Att
namespace L2
open PySem PySem.Spec PyProof.Rows
theorem vals_ints:∀ {vs:List Value} {ns:List Int},IntsAre vs ns→Vals (ns.map V.int) vs
 |_,_,.nil=>.nil
 |_,_,.cons n t h=>.cons ⟨t,rfl⟩ (vals_ints h)
noncomputable def Only(H:Hp):Prop:=∀ b,H b=none∨∃ o xs,H b=some (.frz o (.lst xs))
theorem law_call{P:Program}{w:World}{K:PySem.W.Frag}{mg mb:Str→Option Value}{CX:CXT}{k:Nat}{fa a:Addr}{fd:FuncData}{x:Str}{sp:Sp}{s₁:Shared}{vs:List Value}{ns:List Int}
  (KX:K.In s₁.heap) (hns:s₁.heap.Ns mainGlobals mg) (hb:s₁.heap.Ns builtinsNs mb) (hbb:∀ x:Str,x ≠ "__name__"→mb x=bootBuiltins x) (hlim:s₁.heap.NoLimit) (hg:s₁.gens = #[])
  (ha:s₁.heap.get? a=some { cls:=.type "list",data:=.seq vs.toArray }) (hi:IntsAre vs ns) (hl:ns.length ≤ sizeLine) (hr:Room k callerA)
  (F:∀ base:Heap,K.In base→base.Ns mainGlobals mg→FnOk P w K mg base CX k fa fd [x] sp) (hbind:∀ (s:Shared) (u:Value),BindsTo s fd ⟨[u],[]⟩ [(x,u)])
  (hsp:∀ H:Hp,Only H→SqL K H a (ns.map V.int)→sp [.ref a] H (fun v _=>v = .bl true) fun _ _ _=>False)
  (hCX:∀ H e s',CX [] H s₁ (fun _ _ _=>False) e s'→False) :
  codeAny (model P w) callerA (.call (.ref fa) ⟨[.ref a],[]⟩) (fun r s'=>r = .ok (.ret (.bool true))∧OldK s₁.heap s'.heap∧s'.os=s₁.os∧AllBare s'.gens) s₁:=by
 have rv:=vals_ints hi
 have lenV:=hi.length
 have core:∀ H:Hp,Only H→SqL K H a (ns.map V.int)→HOk P w H s₁.heap→(∀ b,H b ≠ none→b=a)→(H a ≠ none→K.lookup a=none) →
   codeAny (model P w) callerA (.call (.ref fa) ⟨[.ref a],[]⟩) (fun r s'=>r = .ok (.ret (.bool true))∧OldK s₁.heap s'.heap∧s'.os=s₁.os∧AllBare s'.gens) s₁:=by
  intro H hO hS hok hA hK
  have base_of:∀ {b:Addr} {o:Obj},s₁.heap.get? b=some o→H b=none→(hidT s₁.heap H).get? b=some o:=fun e n=>hidT_get e n
  have noA:∀ {b:Addr} {o:Obj} {es:Array DictEntry} {ep:Nat},s₁.heap.get? b=some o→o.data = .dict es ep→H b=none:=fun {b o es ep} e d=>by
   cases q:H b with
   |none=>rfl
   |some u =>
    have e':b=a:=hA b (by rw [q];simp)
    subst e'
    rw [ha] at e;cases e
    have d':Data.seq vs.toArray _=Data.dict es ep:=d
    cases d'
  have nsK:∀ {b:Addr} {m:Str→Option Value},s₁.heap.Ns b m→(hidT s₁.heap H).Ns b m:=fun {b m} ⟨o,es,ep,e,d,r⟩=>⟨o,es,ep,base_of e (noA e d),d,r⟩
  have hKb:K.In (hidT s₁.heap H):=fun b o e=>base_of (KX b o e) (by
   cases q:H b with
   |none=>rfl
   |some u =>
    have e':b=a:=hA b (by rw [q];simp)
    subst e'
    rw [hK (by rw [q];simp)] at e;cases e)
  have hM:Mod K mg (hidT s₁.heap H):=⟨hKb,nsK hns,⟨mb,nsK hb,hbb⟩,let ⟨mc,h1,h2⟩:=hlim;⟨mc,nsK h1,h2⟩⟩
  have e0:Env0 P w K mg (hidT s₁.heap H) callerA [] s₁ H:=⟨rfl,hM,fun b o e=>of_hidT e,Nat.le_of_eq (hidT_size _ _),trivial,fun b hb=>absurd (show b ∈ ([]:List Addr) from hb) (by simp),hok,.of_eq hg⟩
  refine codeAny_mono ((F _ hKb (nsK hns)).run callerA [] s₁ H ⟨[.ref a],[]⟩ [.ref a] [.ref a] _ _ hr e0 (hbind s₁ (.ref a)) (.cons rfl .nil) (hsp H hO hS)) fun r s' h=>?_
  cases r with
  |error e=>exact (hCX H e s' h).elim
  |ok fl =>
   cases fl with
   |next=>exact False.elim h
   |brk=>exact False.elim h
   |cont=>exact False.elim h
   |ret u =>
    obtain ⟨v,H',os,bare,un,hok',r',q⟩:=h
    have q':v = .bl true:=q
    subst q'
    obtain rfl:u=Value.bool true:=r'
    refine ⟨rfl,OldK.of_keep fun b o e=>?_,os,bare⟩
    cases q:H b with
    |none=>exact un.keep b o e q (by intro z;exact absurd (show b ∈ ([]:List Addr) from z) (by simp)) (by simp)
    |some u =>
     rcases hO b with z | ⟨ob,xs,z⟩
     ·rw [q] at z;cases z
     ·have z2:=un.frzs b ob _ z
      obtain ⟨e1,_⟩:=hok b _ z
      obtain ⟨e2,_⟩:=hok' b _ z2
      rw [e] at e1;cases e1
      exact e2
 cases hk:K.lookup a with
 |some o =>
  have e:=KX a o hk
  rw [ha] at e
  cases e
  refine core (fun _=>none) (fun _=>.inl rfl) (.inr ⟨_,vs.toArray,_,hk,rfl,rfl,rfl,by rw [List.size_toArray,lenV];exact hl,by simpa using rv⟩) (fun b u z=>by have z':(none:Option HO)=some u:=z;cases z') (fun b z=>absurd rfl z) fun z=>absurd rfl z
 |none =>
  refine core (fun b=>if b=a then some (.frz { cls:=.type "list",data:=.seq vs.toArray } (.lst (ns.map V.int))) else none) (fun b=>?_) (.inl (.inr ⟨{ cls:=.type "list",data:=.seq vs.toArray },if_pos rfl⟩)) (fun b u z=>?_) (fun b z=>?_) fun _=>hk
  ·by_cases hb:b=a
   ·exact .inr ⟨_,_,if_pos hb⟩
   ·exact .inl (if_neg hb)
  ·by_cases hb:b=a
   ·have z':=(if_pos hb).symm.trans z
    cases z'
    subst hb
    exact ⟨ha,by rw [List.length_map];exact hl,vs,_,rv,ha⟩
   ·have z':=(if_neg hb).symm.trans z
    cases z'
  ·by_cases hb:b=a
   ·exact hb
   ·exact absurd (if_neg hb) z
end L2
namespace L2
open PySem PySem.Spec PyProof.Rows
end L2
namespace L2
open PySem PySem.Spec PyProof.Rows
noncomputable def defArgs(s:Stmt):Arguments:=match s with
 |.FunctionDef _ a _ _ _ _ _ _ _ _=>a
 |_=>{ posonlyargs:=[],args:=[],vararg:=none,kwonlyargs:=[],kw_defaults:=[],kwarg:=none,defaults:=[] }
noncomputable def defBody(s:Stmt):List Stmt:=match s with
 |.FunctionDef _ _ b _ _ _ _ _ _ _=>b
 |_=>[]
noncomputable def defScope(s:Stmt):Scope:=match s with
 |.FunctionDef _ _ _ _ _ _ sc _ _ _=>sc
 |_=>{ kind:=.function,names:=[],isGenerator:=false,isCoroutine:=false }
noncomputable abbrev CX0:CXT:=fun _ _ _ _ _ _=>False
noncomputable abbrev E0:XK:=fun _ _ _=>False
theorem pass0{X:Cx}:Passes CX0 X E0:=fun _ _ _ _ _ _ _ h=>h.elim
structure Fun(K:PySem.W.Frag)(x qual:Str)(st:Stmt)(f:Addr)(fd:FuncData):Prop where
 ex:∃ (oc:Value) (od:Option Addr) (dV kV doc pm:Value) (an:Option Addr) (cdv ct:Value) (osl:Array (Option Value)),
  fd=PySem.W.fnOf x qual (defArgs st) (defBody st) (defScope st) dV kV doc pm an cdv ct∧K.lookup f=some ⟨oc,od,.func fd,osl⟩∧PySem.W.codeIn K cdv qual=true
 kp:PySem.W.keepIn K (.ref f)=true
section
variable {P:Program} {w:World} {K:PySem.W.Frag} {mg:Str→Option Value} {base:Heap}
theorem Fun.ok{x qual:Str}{st:Stmt}{f:Addr}{fd:FuncData}{N ps:List Str}{k:Nat}{sp:Sp}(F:Fun K x qual st f fd)(S:FnScope N ps (defScope st))(len:∀ vs H Q E,sp vs H Q E→vs.length=ps.length)
  (hbody:∀ (cdv:Value) (A:Around) (outer:List Env) (s:Shared) (H:Hp) (vs:List V) (Q:VK) (E:XK),Room k (A.deeper (envOfC qual (defScope st) s.heap.objs.size f cdv))→sp vs H Q E →
   ∃ t,PSs (cxOf CX0 P w K mg base N qual (defScope st) f cdv A outer s H E).nox (defBody st) t∧t { nx:=fun _ H'=>Q .non H',rt:=Q } (start N vs) H):FnOk P w K mg base CX0 (k + 1) f fd ps sp:=by
 obtain ⟨oc,od,dV,kV,doc,pm,an,cdv,ct,osl,rfl,lk,hcd⟩:=F.ex
 refine fn_of lk hcd S len fun A outer s H vs Q E hr hsp=>?_
 obtain ⟨t,h,q⟩:=hbody cdv A outer s H vs Q E hr hsp
 exact ⟨t,h.nox,q⟩
theorem fun_mk{x qual:Str}{st:Stmt}{f:Addr}{oc:Value}{od an:Option Addr}{osl:Array (Option Value)}{dV kV doc pm cdv ct:Value}(l:K.lookup f=some ⟨oc,od,.func (PySem.W.fnOf x qual (defArgs st) (defBody st) (defScope st) dV kV doc pm an cdv ct),osl⟩)
  (c:PySem.W.codeIn K cdv qual=true) (k:PySem.W.keepIn K (.ref f)=true):Fun K x qual st f (PySem.W.fnOf x qual (defArgs st) (defBody st) (defScope st) dV kV doc pm an cdv ct):=⟨⟨oc,od,dV,kV,doc,pm,an,cdv,ct,osl,rfl,l,c⟩,k⟩
end
section
variable {X:Cx}
theorem pv(i:Nat){x:Str}{pos:Pos}(hN:X.N[i]?=some x:=by rfl)(hv:Vis X.env.scope x:=by trivial)(hd:(x == ("__debug__":Str))=false:=by decide)
  (hcd:(x == ("__classdict__":Str))=false:=by decide):PE X (.Name x pos) (tVar i):=pe_var hN hv hd hcd
end
theorem iteF{A B:Prop}(h:B):if false=true then A else B:=by
 rw [if_neg Bool.false_ne_true]
 exact h
theorem iteT{A B:Prop}(h:A):if true=true then A else B:=by
 rw [if_pos rfl]
 exact h
end L2
namespace L2
open PySem PySem.Spec PyProof.Rows
theorem relabel_lookup{env:Env}:∀ {names:List (Str×NameKind)} {x:Str},
  (names.map fun (n,k)=>if (k == NameKind.free && env.scope.kind == .function && env.kindOf n == some .cell) then (n,NameKind.cell) else (n,k)).lookup x
   = (names.lookup x).map fun k=>if (k == NameKind.free && env.scope.kind == .function && env.kindOf x == some .cell) then NameKind.cell else k
 |[],_=>rfl
 |(n,k) :: r,x=>by
  have ih:=@relabel_lookup env r x
  show List.lookup x ((if (k == NameKind.free && env.scope.kind == .function && env.kindOf n == some .cell)=true then (n,NameKind.cell) else (n,k)) :: _)=_
  cases hx:x == n with
  |true =>
   have e:x=n:=beq_iff_eq.mp hx
   subst e
   by_cases hc:(k == NameKind.free && env.scope.kind == .function && env.kindOf x == some .cell)=true
   ·rw [if_pos hc];simp only [List.lookup_cons,hx,Option.map_some];rw [if_pos hc]
   ·rw [if_neg hc];simp only [List.lookup_cons,hx,Option.map_some];rw [if_neg hc]
  |false =>
   by_cases hc:(k == NameKind.free && env.scope.kind == .function && env.kindOf n == some .cell)=true
   ·rw [if_pos hc];simp only [List.lookup_cons,hx];exact ih
   ·rw [if_neg hc];simp only [List.lookup_cons,hx];exact ih
theorem relabel_free{scope:Scope}{env:Env}{x:Str}(h:scope.names.lookup x=some .free):(relabel scope env).names.lookup x=some .cell∨(relabel scope env).names.lookup x=some .free:=by
 have e:(relabel scope env).names.lookup x=_:=relabel_lookup (env:=env) (names:=scope.names) (x:=x)
 rw [e,h,Option.map_some]
 split
 ·exact .inl rfl
 ·exact .inr rfl
theorem relabel_back{scope:Scope}{env:Env}{x:Str}(h:(relabel scope env).names.lookup x=some .cell∨(relabel scope env).names.lookup x=some .free):scope.names.lookup x=some .cell∨scope.names.lookup x=some .free:=by
 have e:(relabel scope env).names.lookup x=_:=relabel_lookup (env:=env) (names:=scope.names) (x:=x)
 rw [e] at h
 cases q:scope.names.lookup x with
 |none=>rw [q] at h;simp at h
 |some k =>
  rw [q,Option.map_some] at h
  by_cases hc:(k == NameKind.free && env.scope.kind == .function && env.kindOf x == some .cell)=true
  ·have:(k == NameKind.free)=true:=by
    rw [Bool.and_eq_true,Bool.and_eq_true] at hc;exact hc.1.1
   have:k = .free:=by simpa using this
   subst this;exact .inr rfl
  ·rw [if_neg hc] at h
   rcases h with h | h
   ·exact .inl h
   ·exact .inr h
noncomputable def closL(cells:List (Str×Addr)):List (Str×NameKind)→List (Str×Addr)→List (Str×Addr)
 |[],acc=>acc
 |(n,k) :: r,acc=>if k == .free then closL cells r ((n,(cells.lookup n).getD 0) :: acc) else closL cells r acc
theorem closureFor_eq{scope:Scope}{env:Env}(h:∀ n,(n,NameKind.free) ∈ scope.names→(env.cells.lookup n).isSome=true):closureFor scope env=pure (closL env.cells scope.names []):=by
 have all:∀ (names:List (Str×NameKind)) (acc:List (Str×Addr)),(∀ n,(n,NameKind.free) ∈ names→(env.cells.lookup n).isSome=true) →
   (forIn names acc fun x cs=>(if x.2 == NameKind.free then do let c ← cellOf env x.1;pure (ForInStep.yield ((x.1,c) :: cs)) else pure (ForInStep.yield cs):Sem (ForInStep (List (Str×Addr)))))=pure (closL env.cells names acc):=by
  intro names
  induction names with
  |nil=>intro acc _;rfl
  |cons p r ih =>
   intro acc hp
   obtain ⟨n,k⟩:=p
   rw [List.forIn_cons]
   by_cases hk:(k == NameKind.free)=true
   ·have ek:k = .free:=by simpa using hk
    obtain ⟨c,hc⟩:=Option.isSome_iff_exists.mp (hp n (by rw [ek];exact List.mem_cons_self))
    have e1:cellOf env n=pure c:=by unfold cellOf;rw [hc]
    dsimp only
    rw [if_pos hk,e1]
    have e2:closL env.cells ((n,k) :: r) acc=closL env.cells r ((n,c) :: acc):=by
     show (if k == .free then _ else _)=_
     rw [if_pos hk,hc];rfl
    rw [e2,← ih ((n,c) :: acc) fun m hm=>hp m (List.mem_cons_of_mem _ hm)]
    rfl
   ·dsimp only
    rw [if_neg hk]
    have e2:closL env.cells ((n,k) :: r) acc=closL env.cells r acc:=by
     show (if k == .free then _ else _)=_
     rw [if_neg hk]
    rw [e2,← ih acc fun m hm=>hp m (List.mem_cons_of_mem _ hm)]
    rfl
 have q:=all scope.names [] h
 unfold closureFor
 show ((forIn scope.names [] fun x cs=>(if x.2 == NameKind.free then do let c ← cellOf env x.1;pure (ForInStep.yield ((x.1,c) :: cs)) else pure (ForInStep.yield cs):Sem (ForInStep (List (Str×Addr))))) >>= fun cs=>pure cs)=_
 rw [q]
 rfl
theorem closL_mem{cells:List (Str×Addr)}:∀ {names:List (Str×NameKind)} {acc:List (Str×Addr)} {n:Str} {c:Addr},(n,c) ∈ closL cells names acc→(n,c) ∈ acc∨((n,NameKind.free) ∈ names∧(cells.lookup n).getD 0=c)
 |[],_,_,_,h=>.inl h
 |(m,k) :: r,acc,n,c,h=>by
  have h:(n,c) ∈ (if k == .free then closL cells r ((m,(cells.lookup m).getD 0) :: acc) else closL cells r acc):=h
  by_cases hk:(k == NameKind.free)=true
  ·rw [if_pos hk] at h
   have ek:k = .free:=by simpa using hk
   rcases closL_mem h with q | ⟨q1,q2⟩
   ·rcases List.mem_cons.mp q with q | q
    ·cases q
     exact .inr ⟨by rw [ek];exact List.mem_cons_self,rfl⟩
    ·exact .inl q
   ·exact .inr ⟨List.mem_cons_of_mem _ q1,q2⟩
  ·rw [if_neg hk] at h
   rcases closL_mem h with q | ⟨q1,q2⟩
   ·exact .inl q
   ·exact .inr ⟨List.mem_cons_of_mem _ q1,q2⟩
theorem closL_has{cells:List (Str×Addr)}:∀ {names:List (Str×NameKind)} {acc:List (Str×Addr)} {n:Str},((n,NameKind.free) ∈ names∨∃ c,(n,c) ∈ acc)→∃ c,(n,c) ∈ closL cells names acc
 |[],_,_,h=>h.elim (fun z=>nomatch z) id
 |(m,k) :: r,acc,n,h=>by
  show ∃ c,(n,c) ∈ (if k == .free then closL cells r ((m,(cells.lookup m).getD 0) :: acc) else closL cells r acc)
  by_cases hk:(k == NameKind.free)=true
  ·rw [if_pos hk]
   refine closL_has ?_
   rcases h with h | ⟨c,h⟩
   ·rcases List.mem_cons.mp h with h | h
    ·cases h;exact .inr ⟨_,List.mem_cons_self⟩
    ·exact .inl h
   ·exact .inr ⟨c,List.mem_cons_of_mem _ h⟩
  ·rw [if_neg hk]
   refine closL_has ?_
   rcases h with h | ⟨c,h⟩
   ·rcases List.mem_cons.mp h with h | h
    ·cases h;exact absurd rfl hk
    ·exact .inl h
   ·exact .inr ⟨c,h⟩
theorem lookup_of_mem_all{α:Type}{n:Str}{c:α}:∀ {l:List (Str×α)},(n,c) ∈ l→(∀ d,(n,d) ∈ l→d=c)→l.lookup n=some c
 |[],h,_=>nomatch h
 |(m,d) :: r,h,all=>by
  rw [List.lookup_cons]
  cases hb:n == m with
  |true =>
   have e:n=m:=beq_iff_eq.mp hb
   subst e
   rw [all d List.mem_cons_self]
  |false =>
   rcases List.mem_cons.mp h with q | q
   ·cases q;simp at hb
   ·exact lookup_of_mem_all q fun d' hd=>all d' (List.mem_cons_of_mem _ hd)
theorem cellsFrom_app:∀ (names:List (Str×NameKind)) (n:Nat) (acc:List (Str×Addr)),cellsFrom n names acc=cellsFrom n names [] ++ acc
 |[],_,_=>rfl
 |(x,k) :: r,n,acc=>by
  unfold cellsFrom
  split
  ·rw [cellsFrom_app r (n + 1) ((x,n) :: acc),cellsFrom_app r (n + 1) [(x,n)],List.append_assoc];rfl
  ·exact cellsFrom_app r n acc
theorem cellsFrom_kind:∀ {names:List (Str×NameKind)} {n:Nat} {x:Str} {c:Addr},(x,c) ∈ cellsFrom n names []→(x,NameKind.cell) ∈ names
 |[],_,_,_,h=>nomatch h
 |(y,k) :: r,n,x,c,h=>by
  unfold cellsFrom at h
  split at h
  ·rename_i hk
   have ek:k = .cell:=by simpa using hk
   rw [cellsFrom_app] at h
   rcases List.mem_append.mp h with q | q
   ·exact List.mem_cons_of_mem _ (cellsFrom_kind q)
   ·cases List.mem_singleton.mp q
    rw [ek];exact List.mem_cons_self
  ·exact List.mem_cons_of_mem _ (cellsFrom_kind h)
theorem lookup_nodup{α:Type}{n:Str}{c d:α}:∀ {l:List (Str×α)},(l.map (·.1)).Nodup→l.lookup n=some c→(n,d) ∈ l→d=c
 |[],_,_,h=>nomatch h
 |(m,e) :: r,hn,hl,hm=>by
  have hn:(m :: r.map (·.1)).Nodup:=hn
  obtain ⟨h1,h2⟩:=List.nodup_cons.mp hn
  rw [List.lookup_cons] at hl
  cases hb:n == m with
  |true =>
   rw [hb] at hl
   have e1:n=m:=beq_iff_eq.mp hb
   subst e1
   rcases List.mem_cons.mp hm with q | q
   ·cases q;cases hl;rfl
   ·exact absurd (List.mem_map.mpr ⟨(n,d),q,rfl⟩) h1
  |false =>
   rw [hb] at hl
   rcases List.mem_cons.mp hm with q | q
   ·cases q;simp at hb
   ·exact lookup_nodup h2 hl q
noncomputable def cxComp(X:Cx)(N':List Str)(scope:Scope)(s:Shared)(H:Hp)(fp:List Addr):Cx :=
 { X with N:=N',s₀:=s,H₀:=H,env:=compEnvC scope (cellsFrom (s.heap.objs.size + 1) scope.names (closL X.env.cells scope.names [])) s.heap.objs.size X.env,outer:=X.stack,ex:=fp,fn:=fun x=>scope.names.lookup x == some .cell,pn:=[],xe:=fun _ _=>False }
noncomputable def compSt(js:List (Option Nat))(σ:St):St:=js.map fun j=>match j with
 |some j=>(σ[j]?).getD none
 |none=>none
noncomputable def frB(X:Cx)(scope:Scope):Bool:=scope.names.all fun p=>p.2 != .free || X.env.kindOf p.1 == some .cell || X.env.kindOf p.1 == some .free
noncomputable def atB(X:Cx)(N':List Str)(js:List (Option Nat))(scope:Scope):Bool:=(js.zip N').all fun p=>match p.1 with
 |none=>true
 |some j=>X.N[j]? == some p.2 && scope.names.lookup p.2 == some .free
structure CompOk(X:Cx)(N':List Str)(js:List (Option Nat))(scope:Scope):Prop where
 kind:scope.kind = .function
 nd:(scope.names.map (·.1)).Nodup
 frb:frB X scope=true
 len:js.length=N'.length
 atb:atB X N' js scope=true
theorem CompOk.fr{X:Cx}{N':List Str}{js:List (Option Nat)}{scope:Scope}(C:CompOk X N' js scope):∀ n,(n,NameKind.free) ∈ scope.names→X.env.kindOf n=some .cell∨X.env.kindOf n=some .free:=fun n hn=>by
 have h:=List.all_eq_true.mp C.frb (n,.free) hn
 simp only [Bool.or_eq_true,bne_iff_ne,ne_eq,not_true_eq_false,false_or,beq_iff_eq] at h
 exact h
theorem CompOk.at_{X:Cx}{N':List Str}{js:List (Option Nat)}{scope:Scope}(C:CompOk X N' js scope):∀ (i j:Nat),js[i]?=some (some j)→∃ x,N'[i]?=some x∧X.N[j]?=some x∧scope.names.lookup x=some .free:=fun i j hj=>by
 have hi:i < js.length:=(List.getElem?_eq_some_iff.mp hj).1
 have hi':i < N'.length:=by rw [← C.len];exact hi
 have hz:(js.zip N')[i]?=some (some j,N'[i]):=by
  rw [List.getElem?_zip_eq_some]
  exact ⟨hj,by simp [hi']⟩
 have h:=List.all_eq_true.mp C.atb _ (List.mem_of_getElem? hz)
 simp only [Bool.and_eq_true,beq_iff_eq] at h
 exact ⟨N'[i],by simp [hi'],h.1,h.2⟩
section
variable {X:Cx} {pins:List (Addr×Obj)} {σ:St} {H:Hp} {s:Shared} {N':List Str} {js:List (Option Nat)} {scope:Scope} {fp:List Addr}
theorem comp_start(I:Inv X pins σ H s)(C:CompOk X N' js scope)(hf:∀ b ∈ fp,FpOk X pins H b)(ho:∀ b ∈ fp,∃ o,s.heap.get? b=some o) :
  Inv (cxComp X N' scope s H fp) [] (compSt js σ) H { s with heap:=pushCells (s.heap.push { cls:=.type "dict",data:=.dict #[] }) scope.names }:=by
 have keep:∀ b o,s.heap.get? b=some o→(pushCells (s.heap.push { cls:=.type "dict",data:=.dict #[] }) scope.names).get? b=some o:=fun b o e=>pushCells_keeps _ _ b o (Heap.get?_push_of_some _ e)
 have new:=cellsFrom_ok scope.names (s.heap.push { cls:=.type "dict",data:=.dict #[] }) (s.heap.objs.size + 1) [] ⟨fun _ _ hm=>(nomatch hm),List.Pairwise.nil⟩ (by rw [Heap.size_push];exact Nat.le_refl _)
 rw [Heap.size_push] at new
 have old:∀ n c,(n,c) ∈ closL X.env.cells scope.names []→X.env.cells.lookup n=some c:=fun n c h=>by
  rcases closL_mem h with q | ⟨q1,q2⟩
  ·exact nomatch q
  ·obtain ⟨d,hd⟩:=I.ok.has n (C.fr n q1)
   rw [hd] at q2
   rw [hd];exact congrArg some q2
 have oldlt:∀ n c,X.env.cells.lookup n=some c→c < s.heap.objs.size:=fun n c h=>by
  obtain ⟨v,q⟩:=I.cell n c h
  exact q.lt
 have mem:∀ n c,(cxComp X N' scope s H fp).env.cells.lookup n=some c→(n,c) ∈ cellsFrom (s.heap.objs.size + 1) scope.names []∨X.env.cells.lookup n=some c:=fun n c h=>by
  have h:(cellsFrom (s.heap.objs.size + 1) scope.names (closL X.env.cells scope.names [])).lookup n=some c:=h
  rw [cellsFrom_app] at h
  rcases List.mem_append.mp (PySem.mem_of_lookup h) with q | q
  ·exact .inl q
  ·exact .inr (old n c q)
 have lt:∀ b ∈ fp,b < s.heap.objs.size:=fun b hb=>let ⟨_,e⟩:=ho b hb;Heap.lt_size e
 have fre:∀ x c,scope.names.lookup x=some .free→X.env.cells.lookup x=some c→(cxComp X N' scope s H fp).env.cells.lookup x=some c:=fun x c hx hc=>by
  show (cellsFrom (s.heap.objs.size + 1) scope.names (closL X.env.cells scope.names [])).lookup x=some c
  have hm:=PySem.mem_of_lookup hx
  obtain ⟨d,hd⟩:=closL_has (cells:=X.env.cells) (acc:=[]) (.inl hm)
  have ed:∀ d',(x,d') ∈ closL X.env.cells scope.names []→d'=c:=fun d' h'=>Option.some.inj ((old x d' h').symm.trans hc)
  refine lookup_of_mem_all ?_ fun d' h'=>?_
  ·rw [cellsFrom_app,← ed d hd];exact List.mem_append_right _ hd
  ·rw [cellsFrom_app] at h'
   rcases List.mem_append.mp h' with q | q
   ·exact absurd (lookup_nodup C.nd hx (cellsFrom_kind q)) (by decide)
   ·exact ed d' q
 refine ⟨⟨I.ok.mod,C.kind,I.ok.glob,I.ok.blt,Nat.le_refl _,fun x y c h1 h2=>?_,fun x hx=>?_,fun x c hx h=>?_,I.ok.hd,I.ok.frames,.inl rfl,fun b hb=>⟨Nat.ne_of_lt (lt b hb),fun x c h z=>?_⟩,fun b o e=>I.bs b o e,Nat.le_trans I.ok.bsz I.sz,fun b o e hb=>?_,fun b hb z=>?_,I.stack,I.stkFree⟩,
  rfl,I.bare,Un.kept keep,⟨_,(Heap.Ns.new s.heap (.type "dict")).keeps (pushCells_keeps _ _),fun i x v h1 h2 h3=>?_⟩,fun x c h=>?_,I.hok.fresh (Nat.le_refl _),fun x c h=>?_,fun p hp=>absurd (show p ∈ ([]:List (Addr×Obj)) from hp) (by simp),I.hok.kept keep,?_⟩
 ·rcases mem x c h1 with p1 | p1 <;> rcases mem y c h2 with p2 | p2
  ·exact name_of_addr new.apart p1 p2
  ·exact absurd (Nat.lt_of_lt_of_le (oldlt y c p2) (Nat.le_trans (Nat.le_succ _) (new.empty x c p1).2)) (Nat.lt_irrefl _)
  ·exact absurd (Nat.lt_of_lt_of_le (oldlt x c p1) (Nat.le_trans (Nat.le_succ _) (new.empty y c p2).2)) (Nat.lt_irrefl _)
  ·exact I.ok.inj x y c p1 p2
 ·rcases relabel_back (scope:=scope) (env:=X.env) hx with q | q
  ·exact Option.isSome_iff_exists.mp (PySem.W.cellsFrom_some scope.names _ _ (.inl q))
  ·obtain ⟨c,hc⟩:=I.ok.has x (C.fr x (PySem.mem_of_lookup q))
   exact ⟨c,fre x c q hc⟩
 ·have hx:scope.names.lookup x=some .cell:=by simpa [cxComp] using hx
  rcases mem x c h with q | q
  ·exact Nat.le_trans (Nat.le_succ _) (new.empty x c q).2
  ·
   have e:(cellsFrom (s.heap.objs.size + 1) scope.names (closL X.env.cells scope.names [])).lookup x=some c:=h
   rw [cellsFrom_app,List.lookup_append] at e
   obtain ⟨d,hd⟩:=Option.isSome_iff_exists.mp (PySem.W.cellsFrom_some scope.names (s.heap.objs.size + 1) [] (.inl hx))
   rw [hd] at e
   cases e
   exact Nat.le_trans (Nat.le_succ _) (new.empty x _ (PySem.mem_of_lookup hd)).2
 ·rcases mem x c h with q | q
  ·have:=(new.empty x c q).2
   rw [z] at this
   exact absurd (Nat.lt_of_lt_of_le (lt b hb) (Nat.le_trans (Nat.le_succ _) this)) (Nat.lt_irrefl _)
  ·exact (hf b hb).2.2.2.2.1 x c q z
 ·obtain ⟨_,_,_,h1,_⟩:=hf b hb
  rcases h1 with h1 | h1
  ·exact I.ok.noex b o e h1
  ·exact absurd (Nat.lt_of_lt_of_le (Heap.lt_size (I.ok.bs b o e).1) h1) (Nat.lt_irrefl _)
 ·obtain ⟨_,h1,h2,_⟩:=hf b hb
  exact (List.mem_cons.mp (I.stkSub b z)).elim h1 h2
 ·
  obtain ⟨j,hj,hv⟩:∃ j,js[i]?=some (some j)∧(σ[j]?).getD none=some v:=by
   have h2:(js.map fun j=>match j with | some j=>(σ[j]?).getD none | none=>none)[i]?=some (some v):=h2
   rw [List.getElem?_map] at h2
   cases e:js[i]? with
   |none=>rw [e] at h2;cases h2
   |some o =>
    rw [e] at h2
    cases o with
    |none=>cases h2
    |some j=>exact ⟨j,rfl,Option.some.inj h2⟩
  obtain ⟨y,e1,e2,e3⟩:=C.at_ i j hj
  have exy:y=x:=Option.some.inj (e1.symm.trans (show N'[i]?=some x from h1))
  rw [exy] at e2 e3
  have hs:σ[j]?=some (some v):=by
   cases e:σ[j]? with
   |none=>rw [e] at hv;cases hv
   |some o=>rw [e] at hv;exact congrArg some hv
  have kx:=C.fr x (PySem.mem_of_lookup e3)
  obtain ⟨m,hn,hl⟩:=I.loc
  obtain ⟨u,r,l⟩:=hl j x v e2 hs (kx.elim (fun z=>.inr (.inl z)) fun z=>.inr (.inr z))
  refine ⟨u,r,.inr ⟨relabel_free e3,?_⟩⟩
  rcases l with ⟨k,_⟩ | ⟨_,c,hc,hcell⟩
  ·rcases kx with z | z
   ·rw [z] at k;cases k
   ·rw [z] at k;cases k
  ·exact ⟨c,fre x c e3 hc,hcell.keeps keep⟩
 ·rcases mem x c h with q | q
  ·exact ⟨none,(new.empty x c q).1⟩
  ·obtain ⟨v,z⟩:=I.cell x c q
   exact ⟨v,z.keeps keep⟩
 ·rcases mem x c h with q | q
  ·exact I.hok.fresh (Nat.le_trans (Nat.le_succ _) (new.empty x c q).2)
  ·exact I.freeC x c q
 ·show (compSt js σ).length=N'.length
  unfold compSt
  rw [List.length_map,C.len]
theorem comp_env{M:Model}{A:Around}{E:Value→Shared→Prop}{env:Env}{cl:List (Str×Addr)}{Q:Env→Shared→Prop}
  (h:Q (newEnv scope s.heap.objs.size env.globals (cellsFrom (s.heap.objs.size + 1) scope.names cl) env.qual none .none (some env) builtinsNs) { s with heap:=pushCells (s.heap.push { cls:=.type "dict",data:=.dict #[] }) scope.names }) :
  wpAny M A (newFunctionEnv scope env.globals cl [] env.qual none .none (some env)) Q E s:=by
 simp only [newFunctionEnv,Option.isSome_some,if_true]
 refine wpAny_bind (wpAny_alloc ?_)
 refine wpAny_bind (wpAny_layCells _ (fun name kind cells=>by cases hkc:kind == NameKind.cell <;> simp [hkc]) _ _ _ _ ?_)
 rw [show ({ s with heap:=s.heap.push { cls:=.type "dict",data:=.dict #[] } }:Shared).heap.objs.size=s.heap.objs.size + 1 from Heap.size_push ..]
 simp only [List.forIn_nil]
 exact wpAny_bind (wpAny_pure (wpAny_pure h))
noncomputable def PF(X:Cx)(ifs:List Expr)(t:TT):Prop :=
 ∀ (pins:List (Addr×Obj)) (s:Shared) (σ:St) (H:Hp) (Q:Bool→Hp→Prop),Inv X pins σ H s→t σ H Q →
  wpAny (model X.prog X.w) X.A (forIn ifs true fun c r=>if r=true then do let ok ← isTrue c X.env (eval c X.env);pure (ForInStep.yield ok) else pure (ForInStep.yield r)) (TP X pins σ Q) X.xe s
noncomputable def tNoIf:TT:=fun _ H Q=>Q true H
theorem pf_nil:PF X [] tNoIf:=fun _ _ _ H _ I h=>wpAny_tests_nil ⟨H,I,h⟩
theorem pf_one{c:Expr}{t:TT}(h:PT X c t):PF X [c] t:=fun pins s σ H Q I q=>wpAny_tests_one (h pins s σ H Q I q)
theorem compLoop_any{prog:Program}{w:World}{A:Around}{R:Result→Shared→Prop}{s:Shared}{elt target iter:Expr}{ifs:List Expr}{scope:Scope}{pos:Pos}{it acc:Value}{env:Env}(I:Nat→Shared→Prop)
  (turn:∀ n s,I n s→wpAny (model prog w) A (pyNext it) (fun r s₁=>match r with
   |none=>R (.ok .next) s₁
   |some v=>wpAny (model prog w) A (letOwnedTupleGo target it v) (fun _ s₀=>wpAny (model prog w) A (assign target env v) (fun _ s₂ =>
     wpAny (model prog w) A (forIn ifs true fun c r=>if r=true then do let ok ← isTrue c env (eval c env);pure (ForInStep.yield ok) else pure (ForInStep.yield r)) (fun ok s₃ =>
      if ok=true then wpAny (model prog w) A (eval elt env) (fun x s₄ =>
       wpAny (model prog w) A (call (.builtin "list.append") [acc,x]) (fun _ s₅=>∃ m,m < n∧I m s₅) (notedBy (model prog w) A env fun e s'=>R (.error e) s') s₄) (notedBy (model prog w) A env fun e s'=>R (.error e) s') s₃
      else ∃ m,m < n∧I m s₃) (notedBy (model prog w) A env fun e s'=>R (.error e) s') s₂) (notedBy (model prog w) A env fun e s'=>R (.error e) s') s₀) (notedBy (model prog w) A env fun e s'=>R (.error e) s') s₁) (notedBy (model prog w) A env fun e s'=>R (.error e) s') s)
  (n:Nat) (h:I n s):codeAny (model prog w) A (.compLoop (.ListComp elt [⟨target,iter,ifs,0⟩] scope pos) 0 it acc env) R s:=by
 refine codeAny_loop rfl I (fun n s hI=>?_) n h
 show wpAny _ A ((compTurn (.ListComp elt [⟨target,iter,ifs,0⟩] scope pos) 0 it acc env).onRaise (fun x=>do noteFrame x env;theTreesLotGoes x)) _ _ s
 refine wpAny_noted ?_
 rw [compTurn_list]
 refine wpAny_bind (wpAny_standAt (wpAny_bind (wpAny_mono (turn n s hI) (fun r s₁ h₁=>?_) fun _ _ h'=>h')))
 cases r with
 |none=>exact wpAny_pure h₁
 |some v =>
  refine wpAny_bind (wpAny_mono h₁ (fun _ s₀ h₀=>?_) fun _ _ h'=>h')
  refine wpAny_bind (wpAny_mono h₀ (fun _ s₂ h₂=>wpAny_bind (wpAny_mono h₂ (fun ok s₃ h₃=>?_) fun _ _ h'=>h')) fun _ _ h'=>h')
  cases ok with
  |false=>exact wpAny_pure ⟨rfl,h₃⟩
  |true =>
   exact wpAny_bind (wpAny_bind (wpAny_mono h₃ (fun x s₄ h₄=>wpAny_bind (wpAny_mono h₄ (fun _ s₅ h₅=>wpAny_pure (wpAny_pure ⟨rfl,h₅⟩)) fun _ _ h'=>h')) fun _ _ h'=>h'))
noncomputable def tCompW(J:It)(g:TG)(tf:TT)(te:TE)(D:Addr)(σ0:St)(H1:Hp)(Q:Hp→Prop):Prop :=
 ∃ W:Nat→Nat→St→Hp→Prop,(∃ m,W 0 m σ0 (upd H1 D (.lst [])))∧∀ i m σ H,W i m σ H →
  (J.stop i H∧Q H)∨(J.go i H∧∀ x H2,J.yld i H x H2→g x σ H2 fun σ2 H3=>tf σ2 H3 fun b H4 =>
   if b=true then te σ2 H4 fun y H5=>∃ zs,H5 D=some (.lst zs)∧zs.length < sizeLine∧∃ m',m' < m∧W (i + 1) m' σ2 (upd H5 D (.lst (zs ++ [y])))
   else ∃ m',m' < m∧W (i + 1) m' σ2 H4)
noncomputable def tComp(js:List (Option Nat))(wi:TI)(g:Shared→Hp→List Addr→TG)(tf:Shared→Hp→List Addr→TT)(te:Shared→Hp→List Addr→TE):TE:=fun σ H Q=>wi σ H fun J H1=>∀ (D:Addr),H1 D=none→∀ (s0:Shared) (H0:Hp) (fp:List Addr),tCompW J (g s0 H0 fp) (tf s0 H0 fp) (te s0 H0 fp) D (compSt js σ) H1 fun H'=>Q (.ref D) H'
theorem comp_run{tg iter elt:Expr}{ifs:List Expr}{pos:Pos}{J:It}{it:Addr}{tn:Nat→Heap→Prop}{g:Shared→Hp→TG}{tf:Shared→Hp→TT}{te:Shared→Hp→TE}{E:Value→Shared→Prop}{RR:Value→Addr→Result→Shared→Prop}{Q:Addr→Hp→Prop}
  (hc:X.calm=true) (C:CompOk X N' js scope) (I:Inv X pins σ H s) (T:Turn X.prog X.w X.K tg J fp it tn) (st:tn 0 s.heap) (hf:∀ b ∈ fp,FpOk X pins H b)
  (body:∀ (s0:Shared) (H0:Hp),PG (cxComp X N' scope s0 H0 fp) tg (g s0 H0)∧PF (cxComp X N' scope s0 H0 fp) ifs (tf s0 H0)∧PE (cxComp X N' scope s0 H0 fp) elt (te s0 H0))
  (h:∀ D,H D=none→∀ (s0:Shared) (H0:Hp),tCompW J (g s0 H0) (tf s0 H0) (te s0 H0) D (compSt js σ) H (Q D))
  (hRR:∀ (D C:Addr) (H':Hp) (s':Shared) (m:Str→Option Value),s'.heap.Ns C m→s.heap.objs.size ≤ C→(∀ p ∈ X.pn ++ pins,p.1 ≠ C)→H' C=none→C ≠ X.env.locals→(∀ x c,X.env.cells.lookup x=some c→c ≠ C)→(X.s₀.heap.objs.size ≤ C)→Inv X pins σ H' s'→Q D H'→RR (.ref D) C (.ok .next) s') :
  wpAny (model X.prog X.w) X.A (newList []) (fun acc s₃=>wpAny (model X.prog X.w) X.A (newFunctionEnv scope X.env.globals (closL X.env.cells scope.names []) [] X.env.qual none .none (some X.env)) (fun cenv s₄ =>
   codeAny (model X.prog X.w) X.A (.compStart (.ListComp elt [⟨tg,iter,ifs,0⟩] scope pos) 0 (.ref it) acc { cenv with scope:=relabel scope X.env }) (RR acc cenv.locals) s₄) E s₃) E s:=by
 have hfr:H s.heap.objs.size=none:=I.hok.fresh (Nat.le_refl _)
 have I1:Inv X pins σ (upd H s.heap.objs.size (.lst [])) { s with heap:=s.heap.push { cls:=.type "list",dict:=none,data:=.seq ([]:List Value).toArray } } :=
  I.laid (t':=s.toks) (fun b u e=>Heap.get?_push_of_some _ e) (Nat.le_refl _) ⟨Nat.zero_le _,[],_,.nil,Heap.get?_push_size _ rfl⟩
 refine wpAny_newObj_type (comp_env ?_)
 have st1:tn 0 (s.heap.push { cls:=.type "list",dict:=none,data:=.seq ([]:List Value).toArray }):=T.keep _ _ _ st fun b hb o e=>Heap.get?_push_of_some _ e
 have lt:∀ b ∈ fp,b < s.heap.objs.size:=fun b hb=>let ⟨_,e,_⟩:=T.obj _ _ st b hb;Heap.lt_size e
 have hf1:∀ b ∈ fp,FpOk X pins (upd H s.heap.objs.size (.lst [])) b:=fun b hb=>⟨by rw [upd_ne (Nat.ne_of_lt (lt b hb))];exact (hf b hb).1,(hf b hb).2⟩
 have I2:=comp_start (fp:=fp) I1 C hf1 (fun b hb=>let ⟨o,e,_⟩:=T.obj _ _ st1 b hb;⟨o,e⟩)
 have st2:tn 0 (pushCells ((s.heap.push { cls:=.type "list",dict:=none,data:=.seq ([]:List Value).toArray }).push { cls:=.type "dict",data:=.dict #[] }) scope.names):=T.keep _ _ _ st1 fun b hb o e=>pushCells_keeps _ _ b o (Heap.get?_push_of_some _ e)
 obtain ⟨W,⟨m0,w0⟩,turn⟩:=h _ hfr { s with heap:=s.heap.push { cls:=.type "list",dict:=none,data:=.seq ([]:List Value).toArray } } (upd H s.heap.objs.size (.lst []))
 obtain ⟨bg,bf,be⟩:=body { s with heap:=s.heap.push { cls:=.type "list",dict:=none,data:=.seq ([]:List Value).toArray } } (upd H s.heap.objs.size (.lst []))
 generalize hs1:({ s with heap:=s.heap.push { cls:=.type "list",dict:=none,data:=.seq ([]:List Value).toArray } }:Shared)=s1 at I1 I2 st2 bg bf be turn ⊢
 have es1:s1.heap=s.heap.push { cls:=.type "list",dict:=none,data:=.seq ([]:List Value).toArray }:=by rw [← hs1]
 have sz1:s1.heap.objs.size=s.heap.objs.size + 1:=by rw [es1,Heap.size_push]
 rw [← es1] at st2
 have stat:∀ {H':Hp},(∀ b ∈ fp,H' b=none)→∀ b ∈ fp,FpOk (cxComp X N' scope s1 (upd H s.heap.objs.size (.lst [])) fp) [] H' b:=fun hn b hb=>by
  refine ⟨hn b hb,(I2.ok.exf b hb).1,?_,.inl hb,(I2.ok.exf b hb).2,fun p hp=>absurd (show p ∈ ([]:List (Addr×Obj)) from hp) (by simp)⟩
  exact I2.ok.exfs b hb
 have outE:∀ {α:Type} {t:Sem α} {QQ:α→Shared→Prop} {E':Value→Shared→Prop} {s':Shared},wpAny (model X.prog X.w) X.A t QQ (fun _ _=>False) s'→wpAny (model X.prog X.w) X.A t QQ E' s':=fun q=>wpAny_mono q (fun _ _ z=>z) fun _ _ z=>z.elim
 have loop:∀ s2:Shared,s2={ s1 with heap:=pushCells (s1.heap.push { cls:=.type "dict",data:=.dict #[] }) scope.names } →
   codeAny (model X.prog X.w) X.A (.compLoop (.ListComp elt [⟨tg,iter,ifs,0⟩] scope pos) 0 (.ref it) (.ref s.heap.objs.size) (cxComp X N' scope s1 (upd H s.heap.objs.size (.lst [])) fp).env) (RR (.ref s.heap.objs.size) s1.heap.objs.size) s2:=by
  rintro s2 rfl
  refine compLoop_any (fun n s'=>∃ i σ' H',Inv (cxComp X N' scope s1 (upd H s.heap.objs.size (.lst [])) fp) [] σ' H' s'∧tn i s'.heap∧(∀ b ∈ fp,H' b=none)∧W i n σ' H') ?_ m0 ⟨0,_,_,I2,st2,fun b hb=>(hf1 b hb).1,w0⟩
  rintro n s3 ⟨i,σ3,H3,I3,st3,fr3,w3⟩
  rcases turn i n σ3 H3 w3 with ⟨stop,q⟩ | ⟨go,step⟩
  ·refine outE (thn (T.done (cxComp X N' scope s1 (upd H s.heap.objs.size (.lst [])) fp) rfl rfl rfl hc i [] s3 σ3 H3 (fun _ _=>False) I3 (stat fr3) st3 stop) fun r s4 zz0=>?_)
   obtain ⟨hr,I4⟩:=zz0
   subst hr
   have u4:Un (frs X.stack) fp (upd H s.heap.objs.size (.lst [])) H3 s1.heap s4.heap:=I4.base
   have IX:Inv X pins σ H3 s4:=I1.call' I4.os u4 I4.hok I4.bare fun b hb=>by
    obtain ⟨_,f1,_,f3,f4,f5⟩:=hf1 b hb
    exact ⟨f3,f1,f4,f5⟩
   obtain ⟨m,hn,_⟩:=I4.loc
   have cle:s.heap.objs.size ≤ s1.heap.objs.size:=by rw [sz1];exact Nat.le_succ _
   have clt:∀ b,b < s1.heap.objs.size→b ≠ s1.heap.objs.size:=fun b hb=>Nat.ne_of_lt hb
   refine hRR _ s1.heap.objs.size H3 s4 m hn cle (fun p hp=>clt _ (Heap.lt_size (I1.pin p hp).1)) I4.free (Ne.symm (clt _ I1.lt)) (fun x c e=>?_) (Nat.le_trans I.sz cle) IX q
   obtain ⟨v,z⟩:=I1.cell x c e
   exact clt _ z.lt
  ·refine outE (thn (T.item (cxComp X N' scope s1 (upd H s.heap.objs.size (.lst [])) fp) rfl rfl rfl hc i [] s3 σ3 H3 (fun _ _=>False) I3 (stat fr3) st3 go) fun r s4 zz0=>?_)
   obtain ⟨u,hr,h4⟩:=zz0
   subst hr
   refine outE (thn h4 fun _ s5 zz0=>?_)
   obtain ⟨x,H5,I5,r5,y5,st5,fr5⟩:=zz0
   have I5':=I5.pinned (stat fr5) (T.obj _ _ st5)
   refine outE (thn (bg _ s5 σ3 H5 x u _ I5' r5 (step x H5 y5)) fun _ s6 zz0=>?_)
   obtain ⟨σ6,H6,I6,q6⟩:=zz0
   refine outE (thn (bf _ s6 σ6 H6 _ I6 q6) fun ok s7 zz0=>?_)
   obtain ⟨H7,I7,q7⟩:=zz0
   have again:∀ {s8:Shared} {σ8:St} {H8:Hp} {m':Nat},Inv (cxComp X N' scope s1 (upd H s.heap.objs.size (.lst [])) fp) ([] ++ pinsAt fp s5.heap) σ8 H8 s8→m' < n→W (i + 1) m' σ8 H8 →
     ∃ m,m < n∧∃ i σ' H',Inv (cxComp X N' scope s1 (upd H s.heap.objs.size (.lst [])) fp) [] σ' H' s8∧tn i s8.heap∧(∀ b ∈ fp,H' b=none)∧W i m σ' H':=fun {s8 σ8 H8 m'} I8 hm w8=>by
    refine ⟨m',hm,i + 1,σ8,H8,I8.unpinned,T.keep _ _ _ st5 fun b hb o e=>(I8.pin (b,o) (List.mem_append_right _ (List.mem_append_right _ (mem_pinsAt hb e)))).1,fun b hb=>?_,w8⟩
    obtain ⟨o,e,d⟩:=T.obj _ _ st5 b hb
    exact (I8.pin (b,o) (List.mem_append_right _ (List.mem_append_right _ (mem_pinsAt hb e)))).2.1
   cases ok with
   |false =>
    rw [if_neg Bool.false_ne_true] at q7 ⊢
    obtain ⟨m',hm,w8⟩:=q7
    exact again I7 hm w8
   |true =>
    rw [if_pos rfl] at q7 ⊢
    refine outE (thn (be _ s7 σ6 H7 _ I7 q7) fun y s8 zz0=>?_)
    obtain ⟨v,H8,I8,r8,zs,hz,hlen,m',hm,w8⟩:=zz0
    obtain ⟨hzl,its,k,rv,e8⟩:=I8.hok _ _ hz
    refine outE (PyProof.Rows.append_at (hsz:=by rw [List.size_toArray,← rv.length];exact hzl) e8 fun h9 sb e9=>?_)
    rw [List.push_toArray] at e9
    have I9:Inv (cxComp X N' scope s1 (upd H s.heap.objs.size (.lst [])) fp) ([] ++ pinsAt fp s5.heap) σ6 (upd H8 s.heap.objs.size (.lst (zs ++ [v]))) { s8 with heap:=h9 } :=
     I8.write (t':=s8.toks) (by rw [hz];trivial) (.inl rfl) (fun b o hb e=>(sb.2 b hb).trans e) ⟨_,e9⟩ ⟨by rw [List.length_append,List.length_singleton];exact hlen,its ++ [y],k + 1,rv.append (.cons r8 .nil),e9⟩
    exact again I9 hm w8
 show codeAny (model X.prog X.w) X.A (.compStart (.ListComp elt [⟨tg,iter,ifs,0⟩] scope pos) 0 (.ref it) (.ref s.heap.objs.size) (cxComp X N' scope s1 (upd H s.heap.objs.size (.lst [])) fp).env) (RR (.ref s.heap.objs.size) s1.heap.objs.size) { s1 with heap:=pushCells (s1.heap.push { cls:=.type "dict",data:=.dict #[] }) scope.names }
 exact codeAny_compStart_list (loop _ rfl) (T.self X.A 0 _ _ _ st2 (loop _ rfl))
theorem lookup_of_nodup{α:Type}{n:Str}{c:α}:∀ {l:List (Str×α)},(l.map (·.1)).Nodup→(n,c) ∈ l→l.lookup n=some c
 |[],_,h=>nomatch h
 |(m,e) :: r,hn,hm=>by
  have hn:(m :: r.map (·.1)).Nodup:=hn
  obtain ⟨h1,h2⟩:=List.nodup_cons.mp hn
  rw [List.lookup_cons]
  rcases List.mem_cons.mp hm with q | q
  ·cases q;simp
  ·have hne:(n == m)=false:=by
    cases hb:n == m with
    |false=>rfl
    |true=>exact absurd (List.mem_map.mpr ⟨(n,c),q,beq_iff_eq.mp hb⟩) h1
   rw [hne]
   exact lookup_of_nodup h2 q
variable {tg iter elt:Expr} {ifs:List Expr} {pos:Pos} {wi:TI} {g:Shared→Hp→List Addr→TG} {tf:Shared→Hp→List Addr→TT} {te:Shared→Hp→List Addr→TE}
theorem pe_comp(hc:X.calm=true)(C:CompOk X N' js scope)(hi:PI X tg iter wi)
  (body:∀ (s0:Shared) (H0:Hp) (fp:List Addr),PG (cxComp X N' scope s0 H0 fp) tg (g s0 H0 fp)∧PF (cxComp X N' scope s0 H0 fp) ifs (tf s0 H0 fp)∧PE (cxComp X N' scope s0 H0 fp) elt (te s0 H0 fp))
  (hs:∀ x,foldedSetIterable iter X.env x=pure x:=by intro _;rfl):PE X (.ListComp elt [⟨tg,iter,ifs,0⟩] scope pos) (tComp js wi g tf te):=by
 intro pins s σ H Q I h
 rw [eval_ListComp]
 have hcl:closureFor scope X.env=pure (closL X.env.cells scope.names []):=closureFor_eq fun n hn=>Option.isSome_iff_exists.mpr (I.ok.has n (C.fr n hn))
 refine wpAny_comprehension_free (use:=none) rfl hs hcl C.kind (fun x hx hl=>lookup_of_nodup C.nd (by rw [← hl];exact hx)) (thn (hi pins s σ H _ I h) fun v s1 h1=>thn h1 fun itv s2 h2=>?_)
 obtain ⟨it,fp,tn,J,H2,e,I2,T,st2,f2,q⟩:=h2
 subst e
 refine comp_run (RR:=fun acc C=>compPost (model X.prog X.w) X.A X.xe none (EP X pins σ Q) acc C) hc C I2 T st2 f2 (g:=fun s0 H0=>g s0 H0 fp) (tf:=fun s0 H0=>tf s0 H0 fp) (te:=fun s0 H0=>te s0 H0 fp) (fun s0 H0=>body s0 H0 fp) (Q:=fun D H'=>Q (.ref D) H') (fun D hD s0 H0=>q D hD s0 H0 fp) ?_
 intro D Ca H' s' m hn hle hp hC hL hcel hs0 I' q'
 exact ⟨m,hn,fun h' hs'=>⟨.ref D,H',I'.turned (t':=s'.toks) (it:=Ca) (fun b o hb e=>(hs'.2 b hb).trans e) hC hL (.inr hs0) hcel hp,rfl,q'⟩⟩
theorem ps_setc{i:Nat}{x:Str}{px cpos:Pos}(hc:X.calm=true)(C:CompOk X N' js scope)(hi:PI X tg iter wi)
  (body:∀ (s0:Shared) (H0:Hp) (fp:List Addr),PG (cxComp X N' scope s0 H0 fp) tg (g s0 H0 fp)∧PF (cxComp X N' scope s0 H0 fp) ifs (tf s0 H0 fp)∧PE (cxComp X N' scope s0 H0 fp) elt (te s0 H0 fp))
  (hN:X.N.Nodup) (hix:X.N[i]?=some x) (hx:Loc X.env.scope x)
  (hsw:swapsWith (.ListComp elt [⟨tg,iter,ifs,0⟩] scope cpos) (some (.Name x px)) pos.line X.env=pure true:=by rfl) (hf:X.fn x=true∨X.env.scope.names.lookup x=some .local:=by trivial)
  (hs:∀ x,foldedSetIterable iter X.env x=pure x:=by intro _;rfl):PS X (.Assign [.Name x px] (.ListComp elt [⟨tg,iter,ifs,0⟩] scope cpos) pos) (tAsg (tComp js wi g tf te) (gName i)):=by
 intro pins s σ H D0 I h
 rw [exec_Assign_Name_used _ _ _ _ hsw]
 refine wpAny_bind (wpAny_standAt (wpAny_bind ?_))
 show wpAny _ X.A (do let _ ← comprehension (.ListComp elt [⟨tg,iter,ifs,0⟩] scope cpos) scope X.env _ (newList []) false (eval iter X.env) (some (assign (.Name x px) X.env))) _ _ s
 have hcl:closureFor scope X.env=pure (closL X.env.cells scope.names []):=closureFor_eq fun n hn=>Option.isSome_iff_exists.mpr (I.ok.has n (C.fr n hn))
 refine wpAny_bind (wpAny_mono (wpAny_comprehension_free (use:=some (assign (.Name x px) X.env)) (Q:=fun _ s'=>SP X pins D0 .next s') rfl hs hcl C.kind (fun x hx hl=>lookup_of_nodup C.nd (by rw [← hl];exact hx)) (thn (hi pins s σ H _ I h) fun v s1 h1=>thn h1 fun itv s2 h2=>?_))
  (fun _ s' hq=>wpAny_pure (wpAny_pure hq)) fun _ _ e=>e)
 obtain ⟨it,fp,tn,J,H2,e,I2,T,st2,f2,q⟩:=h2
 subst e
 refine comp_run (RR:=fun acc C=>compPost (model X.prog X.w) X.A X.xe (some (assign (.Name x px) X.env)) (fun _ s'=>SP X pins D0 .next s') acc C) hc C I2 T st2 f2 (g:=fun s0 H0=>g s0 H0 fp) (tf:=fun s0 H0=>tf s0 H0 fp) (te:=fun s0 H0=>te s0 H0 fp) (fun s0 H0=>body s0 H0 fp) (Q:=fun D H'=>D0.nx (σ.set i (some (.ref D))) H') (fun D hD s0 H0=>q D hD s0 H0 fp) ?_
 intro D Ca H' s' m hn hle hp hC hL hcel hs0 I' q'
 show wpAny _ X.A (assign (.Name x px) X.env (.ref D)) _ _ _
 refine wpAny_assign_Name (store_ok2 I' hN hix hx (v:=.ref D) rfl (fun s'' I'' hsb=>?_) hf)
 obtain ⟨a,sb,ha⟩:=hsb
 have nCa:Ca ≠ a:=by
  rcases ha with z | z
  ·rw [z];exact hL
  ·exact fun w=>hcel x a z w.symm
 exact ⟨m,hn.sameBut sb nCa,fun h' hs'=>⟨σ.set i (some (.ref D)),H',I''.turned (t':=s''.toks) (it:=Ca) (fun b o hb e=>(hs'.2 b hb).trans e) hC hL (.inr hs0) hcel hp,q'⟩⟩
end
end L2
namespace L2
open PySem PySem.Spec PyProof.Rows
section
variable {prog:Program} {w:World} {A:Around} {E:Value→Shared→Prop} {s:Shared}
theorem nextOf_tuple_item{it l:Addr}{i:Nat}{items:Array Value}{x:Value}{Q:Value→Shared→Prop}(hit:s.heap.IsTupleIter it l i)
  (hl:s.heap.IsTuple l items) (hx:items[i]?=some x)
  (hQ:∀ h',h'.IsTupleIter it l (i + 1)→Heap.SameBut it s.heap h'→Q x { s with heap:=h' }) :
  wpAny (model prog w) A (Builtin.SmallTypes.nextOf (.ref it)) Q E s:=by
 obtain ⟨o,ho,hc,hd⟩:=id hit
 obtain ⟨ol,hol,_,nl,hdl⟩:=hl
 unfold Builtin.SmallTypes.nextOf
 refine wpAny_bind (wpAny_callSpecial?_slot (name:=Str.ofString "__next__") hit.typeIs F.slot_tuple_iterator_next
  (wpAny_call_entry F.slot_tuple_iterator_next hit.typeIs F.entry_tuple_iterator_next ?_ (F.args_tuple_iterator_next_1 _)))
 show wpAny _ _ (field (.ref it) 0 >>= _) _ _ s
 refine wpAny_bind (wpAny_field ho hd (x:=.ref l) rfl ?_)
 show wpAny _ _ (if (Value.ref l == Value.none)=true then _ else _) _ _ s
 rw [if_neg (show ¬ ((Value.ref l == Value.none)=true) from Bool.false_ne_true)]
 show wpAny _ _ (field (.ref it) 1 >>= _) _ _ s
 refine wpAny_bind (wpAny_field ho hd (x:=.int i 0) rfl ?_)
 show wpAny _ _ (seqItems? (.ref l) >>= _) _ _ s
 refine wpAny_bind (wpAny_seqItems hol hdl ?_)
 simp only [Int.toNat_natCast,hx]
 refine wpAny_bind (wpAny_setField ho hd (by simp) (wpAny_pure ⟨x,rfl,wpAny_pure (hQ _ ?_ (Heap.SameBut.update ..))⟩))
 exact ⟨_,Heap.get?_update_self _ ho (Obj.isFreed_of_fields (Obj.data_mapFields hd _)),(Obj.cls_mapFields ..).trans hc,by
  rw [Obj.data_mapFields hd];simp [rawInt]⟩
theorem nextOf_tuple_end{it l:Addr}{i:Nat}{items:Array Value}{Q:Value→Shared→Prop}(hh:A.handled=none)
  (hit:s.heap.IsTupleIter it l i) (hl:s.heap.IsTuple l items) (hx:items[i]?=none)
  (hE:∀ h' e,Heap.ExtBut it s.heap h'→(∃ o,h'.get? e=some o∧o.cls = .type "StopIteration")→E (.ref e) { s with heap:=h' }) :
  wpAny (model prog w) A (Builtin.SmallTypes.nextOf (.ref it)) Q E s:=by
 obtain ⟨o,ho,hc,hd⟩:=id hit
 obtain ⟨ol,hol,_,nl,hdl⟩:=hl
 unfold Builtin.SmallTypes.nextOf
 refine wpAny_bind (wpAny_callSpecial?_slot (name:=Str.ofString "__next__") hit.typeIs F.slot_tuple_iterator_next
  (wpAny_call_entry F.slot_tuple_iterator_next hit.typeIs F.entry_tuple_iterator_next ?_ (F.args_tuple_iterator_next_1 _)))
 show wpAny _ _ (field (.ref it) 0 >>= _) _ _ s
 refine wpAny_bind (wpAny_field ho hd (x:=.ref l) rfl ?_)
 show wpAny _ _ (if (Value.ref l == Value.none)=true then _ else _) _ _ s
 rw [if_neg (show ¬ ((Value.ref l == Value.none)=true) from Bool.false_ne_true)]
 show wpAny _ _ (field (.ref it) 1 >>= _) _ _ s
 refine wpAny_bind (wpAny_field ho hd (x:=.int i 0) rfl ?_)
 show wpAny _ _ (seqItems? (.ref l) >>= _) _ _ s
 refine wpAny_bind (wpAny_seqItems hol hdl ?_)
 simp only [Int.toNat_natCast,hx]
 refine wpAny_bind (wpAny_rule (wpAny_bind (wpAny_setField ho hd (by simp) ?_)))
 show wpAny _ _ (newExc (.type "StopIteration") [] >>= _) _ _ _
 refine wpAny_bind ?_
 simp only [newExc,newTuple]
 refine wpAny_bind (wpAny_newObj_type ?_ (by size_fits))
 refine wpAny_bind (m:=firstArgMember _ _) (wpAny_of_eq (a:=Value.none) (by first | rfl | (simp only [firstArgMember];rfl)) ?_)
 refine wpAny_newObj_type ?_ (by size_fits)
 simp only [raiseNew]
 refine wpAny_bind (wpAny_handled ?_)
 first | rw [show A.in1.handled=none from hh] | rw [hh]
 refine wpAny_bind (wpAny_pure (wpAny_throw ?_))
 exact hE _ _ (((Heap.SameBut.update ..).extBut.push _).push _) ⟨_,Heap.get?_push_size _ rfl,rfl⟩
end
theorem draws_tuple{prog:Program}{w:World}{A:Around}(hh:A.handled=none)(it l:Addr)(hne:l ≠ it)(items:Array Value) :
  Draws prog w A it [it,l] items.size (fun i v=>items[i]?=some v) (fun i h=>h.IsTupleIter it l i∧h.IsTuple l items) where
 live:=fun _ _ st=>let ⟨o,ho,_⟩:=st.1;⟨o,ho⟩
 frame:=fun _ _ _ st hk=>⟨st.1.at fun o e=>hk it (by simp) o e,let ⟨o,ho,r⟩:=st.2;⟨o,hk l (by simp) o ho,r⟩⟩
 item:=fun i s Q E hi st hQ=>by
  refine nextOf_tuple_item st.1 st.2 (x:=items[i]) (by simp [hi]) fun h' hit hs=>?_
  exact hQ _ h' s.toks (by simp [hi]) ⟨hit,st.2.extBut hs.extBut hne⟩ hs
 done:=fun s Q E st hE=>nextOf_tuple_end hh st.1 st.2 (by simp) hE
theorem meets_enumerate_newT(l:Addr)(items:Array Value)(n:Nat)(dct:Option Addr)(sl:Array (Option Value)) :
  Meets (Builtin.«enumerate.__new__» ⟨[.type "enumerate",.ref l],[]⟩) (fun _ R s=>s.heap.get? l=some { cls:=.type "tuple",dict:=dct,data:=.seq items n,slots:=sl } ∧
   R (.ok (.ret (.ref (s.heap.push { cls:=.type "tuple_iterator",data:=.fields #[.ref l,.int 0 0] }).objs.size)))
    { s with heap:=(s.heap.push { cls:=.type "tuple_iterator",data:=.fields #[.ref l,.int 0 0] }).push { cls:=.type "enumerate",data:=.fields #[.none,.bool false,.ref s.heap.objs.size,rawInt 0,.none,.none] } }) :=
 .of_wp fun prog w A R s h=>by
  obtain ⟨hp,g,d,tk,os⟩:=s;obtain ⟨hl,h⟩:=h
  have hsub:=sub_enumerate
  have hL:Heap.IsTuple (Shared.heap ⟨hp,g,d,tk,os⟩) l items:=⟨_,hl,rfl,n,rfl⟩
  wp_walk using PySem.AutoSeq1.wpAny_loadPart' hl
  refine wpAny_stack_any fun st=>wpAny_pure ?_
  split
  ·rename_i c _ _ _ _ _
   cases (c == Value.type "enumerate")
   ·wp_walk using PySem.AutoSeq1.wpAny_loadPart' hl,wpAny_pyIter_tuple hL
    exact ⟨_,rfl,h⟩
   ·wp_walk using PySem.AutoSeq1.wpAny_loadPart' hl,wpAny_pyIter_tuple hL
    exact ⟨_,rfl,h⟩
  ·wp_walk using PySem.AutoSeq1.wpAny_loadPart' hl,wpAny_pyIter_tuple hL
   exact ⟨_,rfl,h⟩
theorem call_enumerate_tuple{prog:Program}{w:World}{A:Around}{E:Value→Shared→Prop}{s:Shared}{l:Addr}{items:Array Value}{Q:Value→Shared→Prop}(hL:s.heap.IsTuple l items)
  (h:∀ h',IsEnum h' (s.heap.objs.size + 1) s.heap.objs.size 0 .none→h'.IsTupleIter s.heap.objs.size l 0→h'.objs.size=s.heap.objs.size + 2 →
   (∀ b o,s.heap.get? b=some o→h'.get? b=some o)→Q (.ref (s.heap.objs.size + 1)) { s with heap:=h' }) :
  wpAny (model prog w) A (call (.type "enumerate") [.ref l]) Q E s:=by
 obtain ⟨⟨c,dct,dt,sl⟩,hl,hc,n,hd⟩:=hL
 replace hc:c = .type "tuple":=hc
 replace hd:dt = .seq items n:=hd
 subst hc hd
 refine callType_new F.called_enumerate (by decide) (F.typeCall_enumerate_1 _) (F.newCall_enumerate_1 _) (fun obj=>F.args_object_init_2 obj _) F.entry_enumerate_new
  (meets_enumerate_newT l items n dct sl) ⟨hl,?_⟩
 have hz:(s.heap.push { cls:=.type "tuple_iterator",data:=.fields #[.ref l,.int 0 0] }).objs.size=s.heap.objs.size + 1:=Heap.size_push ..
 show _∧_
 rw [hz]
 have he:IsEnum ((s.heap.push { cls:=.type "tuple_iterator",data:=.fields #[.ref l,.int 0 0] }).push
   { cls:=.type "enumerate",data:=.fields #[.none,.bool false,.ref s.heap.objs.size,rawInt 0,.none,.none] }) (s.heap.objs.size + 1) s.heap.objs.size 0 .none:=by
  have:=Heap.get?_push_size (s.heap.push { cls:=.type "tuple_iterator",data:=.fields #[.ref l,.int 0 0] })
   (o:={ cls:=.type "enumerate",data:=.fields #[.none,.bool false,.ref s.heap.objs.size,rawInt 0,.none,.none] }) rfl
  rw [hz] at this;exact this
 refine ⟨⟨_,he,rfl⟩,h _ he ⟨_,Heap.get?_push_of_some _ (Heap.get?_push_size _ rfl),rfl,rfl⟩ (by rw [Heap.size_push,hz]) fun b o x=>Heap.get?_push_of_some _ (Heap.get?_push_of_some _ x)⟩
section
variable {X:Cx} {pins:List (Addr×Obj)} {σ:St} {H:Hp} {s:Shared} {h':Heap}
theorem Inv.turned2{t':Nat}{e it:Addr}(I:Inv X pins σ H s)(k:∀ b o,b ≠ e→b ≠ it→s.heap.get? b=some o→h'.get? b=some o)(fe:FpOk X pins H e)(fi:FpOk X pins H it):Inv X pins σ H { s with heap:=h',toks:=t' }:=by
 have ne1:∀ b,b ∉ [e,it]→b ≠ e∧b ≠ it:=fun b hb=>⟨fun z=>hb (by simp [z]),fun z=>hb (by simp [z])⟩
 have nit:∀ b u,H b=some u→b ≠ e∧b ≠ it:=fun b u q=>⟨fun z=>(by rw [z,fe.1] at q;cases q),fun z=>(by rw [z,fi.1] at q;cases q)⟩
 refine I.step (g':=s.gens) (d':=s.drawn) (ch:=[e,it]) (fun b hb=>?_) (fun b o _ _ hc q _=>k b o (ne1 b hc).1 (ne1 b hc).2 q) (fun b o _ _ hc q _=>⟨o.slots,k b o (ne1 b hc).1 (ne1 b hc).2 q⟩) (fun _ _ _ _ n=>n)
  (fun b o hc q=>⟨o,k b o (ne1 b hc).1 (ne1 b hc).2 q⟩) (fun _ _ q=>q) (fun _ _ _ q=>q) (fun b ps q=>⟨#[],by rw [q];simp⟩) (fun m hm=>?_) (fun b u q=>?_) I.bare
 ·rcases List.mem_cons.mp hb with z | z
  ·subst z;exact ⟨fe.2.2.2.1,fe.2.1,fe.2.2.2.2.1,fe.2.2.2.2.2⟩
  ·have z:=List.mem_singleton.mp z
   subst z;exact ⟨fi.2.2.2.1,fi.2.1,fi.2.2.2.2.1,fi.2.2.2.2.2⟩
 ·obtain ⟨o,es,ep,ho,r⟩:=hm
  exact ⟨o,es,ep,k _ o (Ne.symm fe.2.1) (Ne.symm fi.2.1) ho,r⟩
 ·refine (I.hok b u q).stay (fun c v hc z=>?_) (fun _ z=>z) fun _ _ z=>z
  rcases hc with y | y
  ·rw [y];rw [y] at z;exact k b v (nit b u q).1 (nit b u q).2 z
  ·exact k c v (nit c _ y).1 (nit c _ y).2 z
end
structure EnumSrc(P:Program)(w:World)(K:PySem.W.Frag)(a it:Addr)(Sq:Hp→List V→Prop)(IsIt:Nat→Heap→Prop):Prop where
 at_:∀ i h h',IsIt i h→(∀ o,h.get? it=some o→h'.get? it=some o)→IsIt i h'
 live:∀ i h,IsIt i h→∃ o,h.get? it=some o∧∀ v,o.data ≠ .cell v
 drw:∀ (X:Cx),X.prog=P→X.w=w→X.K=K→X.calm=true→∀ (i:Nat) (pins:List (Addr×Obj)) (s:Shared) (σ:St) (H:Hp) (xs:List V),Inv X pins σ H s→IsIt i s.heap→Sq H xs →
  ∃ its:List Value,Vals xs its∧(∃ oa,s.heap.get? a=some oa∧oa.cls ≠ .type "enumerate")∧∃ St:Nat→Heap→Prop,Draws P w X.A.in1 it [it,a] its.length (fun i v=>its[i]?=some v) St∧St i s.heap∧∀ j h',St j h'→IsIt j h'
 inj:∀ (X:Cx),X.prog=P→X.w=w→X.K=K→∀ (pins:List (Addr×Obj)) (s:Shared) (σ:St) (H:Hp) (xs ys:List V),Inv X pins σ H s→Sq H xs→Sq H ys→xs=ys
noncomputable def Ite(Sq:Hp→List V→Prop):It :=
 ⟨fun i H=>∃ xs x,Sq H xs∧xs[i]?=some x,fun i H x H'=>∃ T v,x = .ref T∧H T=none∧H'=upd H T (.tup [.int (i:Nat),v])∧∀ xs,Sq H xs→xs[i]?=some v,fun i H=>∃ xs,Sq H xs∧xs.length=i⟩
theorem in1_handled{A:Around}(h:A.handled=none):A.in1.handled=none:=h
theorem src_list{P:Program}{w:World}{K:PySem.W.Frag}(a it:Addr):EnumSrc P w K a it (fun H xs=>SqL K H a xs) (fun i h=>h.IsListIter it a i) where
 at_:=fun i h h' st k=>st.at k
 live:=fun i h st=>by
  obtain ⟨o,e,c,d⟩:=st
  exact ⟨o,e,fun v z=>by rw [d] at z;cases z⟩
 drw:=by
  intro X hP hw hK hc i pins s σ H xs I hit hq
  subst hP hw hK
  obtain ⟨its,rv,p,hz⟩:=I.list hq
  obtain ⟨oa,e1,c1,r1⟩:=id p.isList
  have hne:a ≠ it:=fun z=>by
   obtain ⟨o,e,c,_⟩:=hit
   rw [← z,e1] at e;cases e;rw [c1] at c;injection c with c;exact absurd c (by decide)
  refine ⟨its,rv,⟨oa,e1,fun z=>(by rw [c1] at z;injection z with z;exact absurd z (by decide))⟩,(fun i h=>h.IsListIter it a i∧h.IsList a its.toArray),?_,⟨hit,p.isList⟩,fun j h' st=>st.1⟩
  have D:=Draws.list (prog:=X.prog) (w:=X.w) (A:=X.A.in1) (in1_handled (I.ok.hd hc)) it a hne its.toArray
  simpa using D
 inj:=by
  intro X hP hw hK pins s σ H xs ys I h1 h2
  subst hP hw hK
  exact I.list_inj h1 h2
theorem src_tup{P:Program}{w:World}{K:PySem.W.Frag}(a it:Addr):EnumSrc P w K a it (fun H xs=>SqT K H a xs) (fun i h=>h.IsTupleIter it a i) where
 at_:=fun i h h' st k=>st.at k
 live:=fun i h st=>by
  obtain ⟨o,e,c,d⟩:=st
  exact ⟨o,e,fun v z=>by rw [d] at z;cases z⟩
 drw:=by
  intro X hP hw hK hc i pins s σ H xs I hit hq
  subst hP hw hK
  obtain ⟨its,rv,p,hz⟩:=I.tuple hq
  obtain ⟨oa,e1,c1,r1⟩:=id p
  have hne:a ≠ it:=fun z=>by
   obtain ⟨o,e,c,_⟩:=hit
   rw [← z,e1] at e;cases e;rw [c1] at c;injection c with c;exact absurd c (by decide)
  refine ⟨its,rv,⟨oa,e1,fun z=>(by rw [c1] at z;injection z with z;exact absurd z (by decide))⟩,(fun i h=>h.IsTupleIter it a i∧h.IsTuple a its.toArray),?_,⟨hit,p⟩,fun j h' st=>st.1⟩
  have D:=draws_tuple (prog:=X.prog) (w:=X.w) (A:=X.A.in1) (in1_handled (I.ok.hd hc)) it a hne its.toArray
  simpa using D
 inj:=by
  intro X hP hw hK pins s σ H xs ys I h1 h2
  subst hP hw hK
  exact I.tuple_inj h1 h2
theorem turn_enum{P:Program}{w:World}{K:PySem.W.Frag}{a it:Addr}{Sq:Hp→List V→Prop}{IsIt:Nat→Heap→Prop}(S:EnumSrc P w K a it Sq IsIt)(e:Addr)(hei:e ≠ it){es:List Expr}{x1}{pos:Pos} :
  Turn P w K (.Tuple es x1 pos) (Ite Sq) [e,it] e (fun i h=>(∃ old,IsEnum h e it ((i:Nat):Int) old)∧IsIt i h) where
 mem:=by simp
 obj:=fun i h st b hb=>by
  obtain ⟨⟨old,he⟩,hit⟩:=st
  rcases List.mem_cons.mp hb with z | z
  ·subst z;exact ⟨_,he,fun v z=>by cases z⟩
  ·have z:=List.mem_singleton.mp z
   subst z;exact S.live i h hit
 keep:=fun i h h' st k=>by
  obtain ⟨⟨old,he⟩,hit⟩:=st
  exact ⟨⟨old,k e (by simp) _ he⟩,S.at_ i h h' hit fun o q=>k it (by simp) o q⟩
 item:=by
  intro X hP hw hK hc i pins s σ H E I hf st hg
  obtain ⟨⟨old,he⟩,hit⟩:=st
  obtain ⟨xs,x,hq,hx⟩:=hg
  obtain ⟨its,rv,⟨oa,ea,ca⟩,St,D,st0,fromSt⟩:=S.drw X hP hw hK hc i pins s σ H xs I hit hq
  obtain ⟨u,hu,ru⟩:=rv.get hx
  have hlt:i < its.length:=(List.getElem?_eq_some_iff.mp hu).1
  have hef:e ∉ [it,a]:=fun z=>by
   rcases List.mem_cons.mp z with z | z
   ·exact hei z
   ·have z:=List.mem_singleton.mp z
    have he':s.heap.get? e=some _:=he
    rw [z,ea] at he';cases he';exact ca rfl
  refine wpAny_pyNext_enum_itemD D he st0 hlt hei hef fun y h1 tk hy heo hst1 htup hsz hk=>?_
  have ey:y=u:=Option.some.inj (hy.symm.trans hu)
  subst ey
  refine ⟨_,rfl,wpAny_letOwnedTupleGo_enum heo fun h2 he2 sb2=>?_⟩
  have fe:=hf e (by simp)
  have fi:=hf it (by simp)
  have hT:H s.heap.objs.size=none:=I.hok.fresh (Nat.le_refl _)
  have Im:Inv X pins σ (upd H s.heap.objs.size (.tup [.int (i:Nat),x])) { s with heap:=s.heap.push { cls:=.type "tuple",data:=.seq #[.int i tk,y] } } :=
   I.laid (t':=s.toks) (fun b v q=>Heap.get?_push_of_some _ q) (Nat.le_refl _) ⟨by show 2 ≤ sizeLine;decide,[.int i tk,y],.cons ⟨tk,rfl⟩ (.cons ru .nil),⟨_,Heap.get?_push_size _ rfl,rfl,_,rfl⟩⟩
  have lt:∀ b o,s.heap.get? b=some o→b ≠ s.heap.objs.size:=fun b o q=>Nat.ne_of_lt (Heap.lt_size q)
  have ne:e ≠ s.heap.objs.size:=lt e _ he
  have ni:it ≠ s.heap.objs.size:=by
   obtain ⟨o,q,_⟩:=S.live i _ hit
   exact lt it o q
  have up:∀ b,b ≠ s.heap.objs.size→(upd H s.heap.objs.size (.tup [.int (i:Nat),x])) b=H b:=fun b hb=>upd_ne hb
  have fe':FpOk X pins (upd H s.heap.objs.size (.tup [.int (i:Nat),x])) e:=⟨by rw [up e ne];exact fe.1,fe.2⟩
  have fi':FpOk X pins (upd H s.heap.objs.size (.tup [.int (i:Nat),x])) it:=⟨by rw [up it ni];exact fi.1,fi.2⟩
  have I2:Inv X pins σ (upd H s.heap.objs.size (.tup [.int (i:Nat),x])) { s with heap:=h2,toks:=tk + 1 } :=
   Im.turned2 (t':=tk + 1) (h':=h2) (fun b o hbe hbi q=>by
    have q:(s.heap.push { cls:=.type "tuple",data:=.seq #[.int i tk,y] }).get? b=some o:=q
    refine (sb2.2 b hbe).trans ?_
    rcases Heap.get?_push_cases q with ⟨hb,ho⟩ | q'
    ·subst hb;subst ho;exact htup
    ·exact hk b o hbe hbi q') fe' fi'
  refine ⟨.ref s.heap.objs.size,_,I2,rfl,⟨_,x,rfl,hT,rfl,fun ys hy=>by rw [S.inj X hP hw hK pins s σ H ys xs I hy hq];exact hx⟩,⟨⟨y,?_⟩,?_⟩,fun b hb=>?_⟩
  ·have ec:((i + 1:Nat):Int)=(i:Int) + 1:=by push_cast;rfl
   rw [ec];exact he2
  ·exact S.at_ _ _ _ (fromSt _ _ hst1) fun o q=>(sb2.2 it (Ne.symm hei)).trans q
  ·rcases List.mem_cons.mp hb with z | z
   ·subst z;exact fe'.1
   ·have z:=List.mem_singleton.mp z
    subst z;exact fi'.1
 done:=by
  intro X hP hw hK hc i pins s σ H E I hf st hg
  obtain ⟨⟨old,he⟩,hit⟩:=st
  obtain ⟨xs,hq,hx⟩:=hg
  obtain ⟨its,rv,⟨oa,ea,ca⟩,St,D,st0,fromSt⟩:=S.drw X hP hw hK hc i pins s σ H xs I hit hq
  have hl:=rv.length
  have ei:its.length=i:=by omega
  rw [← ei] at st0
  obtain ⟨f0,f1,f2,f3,f4,f5⟩:=hf it (by simp)
  exact wpAny_pyNext_enum_endD D he st0 fun h1 eb=>⟨rfl,I.turned (t':=s.toks) (fun b o hb q=>eb b o hb q) f0 f1 f3 f4 f5⟩
 self:=fun _ _ _ _ _ st h=>wpAny_pyIter_enum st.1.choose_spec h
section
variable {X:Cx}
theorem enum_fin{pins:List (Addr×Obj)}{σ:St}{H:Hp}{s:Shared}{h':Heap}{a:Addr}{Sq:Hp→List V→Prop}{IsIt:Nat→Heap→Prop}{R:It→Hp→Prop}{tg:Expr}(htg:∃ es x1 pos,tg = .Tuple es x1 pos)(I:Inv X pins σ H s)(S:EnumSrc X.prog X.w X.K a s.heap.objs.size Sq IsIt)
  (he:IsEnum h' (s.heap.objs.size + 1) s.heap.objs.size 0 .none) (hit:IsIt 0 h') (hk:∀ b o,s.heap.get? b=some o→h'.get? b=some o) (q:R (Ite Sq) H) {E:Value→Shared→Prop} :
  wpAny (model X.prog X.w) X.A (pyIter (.ref (s.heap.objs.size + 1))) (PIE X pins σ tg R) E { s with heap:=h' }:=by
 obtain ⟨es,x1,pos,rfl⟩:=htg
 refine wpAny_pyIter_enum (s:={ s with heap:=h' }) he ?_
 refine ⟨s.heap.objs.size + 1,[s.heap.objs.size + 1,s.heap.objs.size],_,_,H,rfl,I.kept (t':=s.toks) hk,turn_enum S (s.heap.objs.size + 1) (Nat.succ_ne_self _),⟨⟨_,he⟩,hit⟩,fun b hb=>?_,q⟩
 rcases List.mem_cons.mp hb with z | z
 ·subst z;exact I.fpOk (Nat.le_succ _) (I.hok.fresh (Nat.le_succ _))
 ·have z:=List.mem_singleton.mp z
  subst z;exact I.fpOk (Nat.le_refl _) (I.hok.fresh (Nat.le_refl _))
end
end L2
namespace HT
open PySem PySem.Spec PyProof.Rows
section
variable {prog:Program} {w:World} {A:Around} {E:Value→Shared→Prop} {s:Shared}
theorem getItem_tuple_all{t sl:Addr}{items:Array Value}{vl vu:Value}{lo hi:Option Int}{Q:Value→Shared→Prop}(ht:IsTup s.heap t items)(hs:s.heap.IsSliceOf sl vl vu .none)(pl:IsPart vl lo)(pu:IsPart vu hi)
  (hw:sIx items.size 0 lo=0∧sIx items.size items.size hi=items.size) (h:Q (.ref t) s):wpAny (model prog w) A (getItem (.ref t) (.ref sl)) Q E s:=by
 obtain ⟨os,hos,hcs,hds⟩:=id hs
 have hTs:s.TypeIs (.ref sl) "slice":=⟨os,hos,hcs⟩
 unfold getItem
 try with_reducible refine wpAny_holding ?_
 first | refine wpAny_bind (wpAny_pure ?_) | skip
 refine wpAny_bind (wpAny_sequenceKey ht.typeIs (by decide) ?_)
 refine wpAny_bind (wpAny_callSpecial?_slot (name:=Str.ofString "__getitem__") ht.typeIs PyProof.Rows.slot_tuple_getitem
  (wpAny_call_entry PyProof.Rows.slot_tuple_getitem ht.typeIs entry_tuple_getitem ?_ (args_tuple_getitem _ _)))
 show wpAny _ _ (Builtin.Tuple.tupleItemsOf (.ref t) >>= _) _ _ s
 refine wpAny_bind (tupleItemsOf_ ht ?_)
 refine wpAny_bind (wpAny_typeOf hTs ?_)
 rw [if_pos (by decide)]
 refine wpAny_bind (sliceApplied_gen hs pl pu ?_)
 have hyes:(((sIx items.size 0 lo:Nat):Int) == 0 && (1:Int) == 1 && (sIx items.size items.size hi - sIx items.size 0 lo) == items.size)=true:=by
  rw [hw.1,hw.2];simp
 show wpAny _ _ (if (((sIx items.size 0 lo:Nat):Int) == 0 && (1:Int) == 1 && (sIx items.size items.size hi - sIx items.size 0 lo) == items.size)=true then _ else _) _ _ s
 rw [if_pos hyes]
 refine wpAny_bind (m:=Builtin.Tuple.tupleIsExact _) ?_
 unfold Builtin.Tuple.tupleIsExact
 refine wpAny_bind (wpAny_typeOf ht.typeIs (wpAny_pure ?_))
 rw [if_pos (by decide)]
 exact wpAny_bind (wpAny_rule (wpAny_bind (wpAny_pure (wpAny_pure ⟨_,rfl,wpAny_pure h⟩))))
end
end HT
namespace L2
open PySem PySem.Spec PyProof.Rows
section
variable {X:Cx}
end
end L2
namespace L2
open PySem PySem.Spec PyProof.Rows
mutual
inductive Is(H:Hp):V→PyData→Prop
 |non:Is H .non .none
 |bl (b:Bool):Is H (.bl b) (.bool b)
 |int (i:Int):Is H (.int i) (.int i)
 |str (x:Str):Is H (.str x) (.str x)
 |lst {a:Addr} {xs:List V} {ds:List PyData}:H a=some (.lst xs)→Iss H xs ds→Is H (.ref a) (.list ds)
 |tup {a:Addr} {xs:List V} {ds:List PyData}:H a=some (.tup xs)→Iss H xs ds→Is H (.ref a) (.tuple ds)
inductive Iss(H:Hp):List V→List PyData→Prop
 |nil:Iss H [] []
 |cons {x:V} {d:PyData} {xs:List V} {ds:List PyData}:Is H x d→Iss H xs ds→Iss H (x :: xs) (d :: ds)
end
theorem Iss.get{H:Hp}:∀ {xs:List V} {ds:List PyData} {i:Nat} {d:PyData},Iss H xs ds→ds[i]?=some d→∃ x,xs[i]?=some x∧Is H x d
 |_,_,_,_,.nil,e=>by simp at e
 |_,_,0,_,.cons r _,e=>by simp at e;subst e;exact ⟨_,rfl,r⟩
 |_,_,i + 1,d,.cons _ t,e=>by
  obtain ⟨u,h1,h2⟩:=Iss.get (i:=i) (d:=d) t (by simpa using e)
  exact ⟨u,by simpa using h1,h2⟩
section
variable {X:Cx} {pins:List (Addr×Obj)} {σ:St} {H:Hp} {s:Shared}
theorem call_sum_ints(hc:X.calm=true):CallR X (.builtin "sum") (fun xs H Q=>∃ (l:Addr) (ns:List Int),xs=[.ref l]∧SqL X.K H l (ns.map V.int)∧Q (.int ns.sum) H):=by
 intro pins s σ H xs us Q I r h
 obtain ⟨l,ns,rfl,hq,q⟩:=h
 obtain ⟨u,rfl,ru⟩:=vals1 r
 cases ru
 obtain ⟨its,rv,p,hz⟩:=I.list hq
 have hi:IntsAre its ns:=intsAre_of rv
 obtain ⟨ys,e⟩:=hi.allInts.items
 have en:ys.toList.map (·.1)=ns:=by rw [← nums_intItems,← e];simpa using hi.numsOf
 refine sum_intListG (xs:=ys) (I.ok.hd hc) (by rw [← e];exact p.isList) fun h' tk t' hk=>⟨.int ns.sum,H,I.kept hk,⟨t',?_⟩,q⟩
 rw [preSum_eq,List.take_of_length_le (by simp),en]
theorem mt_bits:MtR X "int.bit_length" (fun x vs H Q=>∃ i,x = .int i∧vs=[]∧Q (.int (Builtin.Int.intBits i:Nat)) H):=by
 intro pins s σ H x xs v us Q I rx r h
 obtain ⟨i,rfl,rfl,q⟩:=h
 obtain ⟨t,rfl⟩:=rx
 cases r
 exact PyProof.Rows.call_int_bit_length ⟨.int (Builtin.Int.intBits i:Nat),H,I.tok _,⟨_,rfl⟩,q⟩
end
end L2
namespace L2
open PySem PySem.Spec PyProof.Rows
structure Cal(P:Program)(w:World)(K:PySem.W.Frag)(mg:Str→Option Value)(base:Heap)(k:Nat)(x:Str)(ps:List Str)(sp:Sp):Prop where
 ex:∃ (f:Addr) (fd:FuncData),FnOk P w K mg base CX0 k f fd ps sp∧mg x=some (.ref f)∧PySem.W.keepIn K (.ref f)=true∧Binds K fd ps []
section
variable {X:Cx} {k:Nat} {ps:List Str} {sp:Sp} {x:Str} {p pos:Pos} {e:Expr} {es:List Expr} {t:TA}
theorem pe_cal(c:Cal X.prog X.w X.K X.mg X.base k x ps sp)(hr:Room k X.A)(hg:Gl X x)(ha:PA X (e :: es) t)(hdb:(x == ("__debug__":Str))=false:=by decide)
  (he:starEach (e :: es) X.env=(false,eval e X.env) :: starEach es X.env:=by rfl) (hpl:(backTo pos (starEach es X.env)).any (·.1)=false:=by rfl):PE X (.Call (.Name x p) (e :: es) [] pos) (tCall sp [] E0 t):=by
 obtain ⟨f,fd,F,hm,hk,hb⟩:=c.ex
 exact pe_call F hr hg hm hk hb .nil pass0 ha hdb he hpl
end
theorem canLay_ints:∀ ns:List Int,PyData.canLayAll0 (ns.map PyData.int)=true
 |[]=>by simp [PyData.canLayAll0]
 |n :: r=>by simp [PyData.canLayAll0,PyData.canLay0,canLay_ints r]
theorem depth_ints:∀ ns:List Int,PyData.depthAll (ns.map PyData.int)=0
 |[]=>by simp [PyData.depthAll]
 |n :: r=>by simp [PyData.depthAll,PyData.depth,depth_ints r]
theorem shaped_intsT(ns:List Int):SeqAt.shaped (.tuple (ns.map PyData.int))=true:=by simp [SeqAt.shaped,PyData.canLay0,PyData.depth,canLay_ints,depth_ints]
end L2
namespace L2
open PySem PySem.Spec PyProof.Rows
section
variable {X:Cx}
end
end L2
namespace L2
open PySem PySem.Spec PyProof.Rows
section
variable {X:Cx} {e st:Expr} {te:TE} {lo hi:Option Expr} {tl th ts:TO} {pos p2:Pos}
end
end L2
namespace L2
open PySem PySem.Spec PyProof.Rows
section
variable {X:Cx}
end
end L2
namespace L2
open PySem PySem.Spec PyProof.Rows
section
variable {prog:Program} {w:World} {A:Around} {E:Value→Shared→Prop} {s:Shared}
end
section
variable {X:Cx} {pos:Pos}
end
end L2
namespace L2
open PySem PySem.Spec PyProof.Rows
section
variable {prog:Program} {w:World} {A:Around} {E:Value→Shared→Prop} {s:Shared}
end
end L2
namespace L2
open PySem PySem.Spec PyProof.Rows
section
variable {X:Cx}
end
end L2
namespace L2
open PySem PySem.Spec PyProof.Rows
theorem KT.get{H:Hp}:∀ {kvs:List (List Key×V)} {xs:List (List Key×Addr×Value)} {i:Nat} {q:List Key×Addr×Value},KT H kvs xs→xs[i]?=some q→∃ p,kvs[i]?=some p∧H q.2.1=some (.tup (p.1.map kV))
 |_,_,_,_,.nil,e=>by simp at e
 |_,_,0,_,.cons r _,e=>by simp at e;subst e;exact ⟨_,rfl,r.2.1⟩
 |_,_,i + 1,q,.cons _ t,e=>by
  obtain ⟨p,h1,h2⟩:=KT.get (i:=i) (q:=q) t (by simpa using e)
  exact ⟨p,by simpa using h1,h2⟩
section
variable {X:Cx} {tg:Expr}
end
section
variable {X:Cx}
end
end L2
namespace L2
open PySem
end L2
namespace L2
open PySem PySem.Spec PyProof.Rows
section
variable {prog:Program} {w:World} {A:Around} {E:Value→Shared→Prop} {s:Shared}
end
end L2
namespace L2
open PySem PySem.Spec PyProof.Rows
section
variable {prog:Program} {w:World} {A:Around} {E:Value→Shared→Prop} {s:Shared}
end
end L2
namespace L2
open PySem PySem.Spec PyProof.Rows
section
variable {X:Cx}
end
noncomputable def KDict(P:Program)(w:World)(K:PySem.W.Frag)(a:Addr)(kvs:List (Key×V)):Prop:=∃ (o:Obj) (es:Array DictEntry) (ep:Nat) (vs:List (Key×Value)),K.lookup a=some o∧o.ExactDict∧o.data = .dict es ep∧KeysOf (mixKind P w) es∧Pairs (mixKind P w) es.toList vs∧(vs.map (·.1)).Nodup∧KV kvs vs
noncomputable def tGGet(kvs:List (Key×V))(ty:TE):TE:=fun σ H Q=>ty σ H fun y H1=>∃ k v,y=kV k∧valV kvs k=some v∧Q v H1
theorem pe_gget{X:Cx}{x:Str}{a:Addr}{kvs:List (Key×V)}{i:Expr}{ty:TE}{p pos:Pos}(hg:Gl X x)(hm:X.mg x=some (.ref a))(hk:KDict X.prog X.w X.K a kvs)(hi:PE X i ty)(hs:NoSl i)(hd:(x == ("__debug__":Str))=false:=by decide):PE X (.Subscript (.Name x p) i pos) (tGGet kvs ty):=by
 intro pins s σ H Q I h
 obtain ⟨o,es,ep,vs,h1,h2,h3,h4,h5,h6,h7⟩:=hk
 refine subD_of PySem.F.slot_dict_getitem.lookup hs (ld_glob I hg hm (thn (hi pins s σ H _ I h) fun iv s2 ⟨y,H2,I2,ry,k,v,ey,hv,q2⟩=>?_) hd)
 subst ey
 have dd:s2.heap.DictOf (mixKind X.prog X.w) a vs:=⟨o,es,ep,I2.kIn a o h1,h2,h3,h4,h5,h6⟩
 obtain ⟨w',hw,rw'⟩:=RelO.some_of (v:=v) (o:=valueAt vs k) (by rw [← hv];exact h7.val k)
 exact ⟨dd.typeIs,wpAny_getItem_of (kV_is ry) dd.mapOf hw ⟨v,H2,I2.tok _,rw',q2⟩⟩
end L2
namespace L2
open PySem
end L2
namespace L2
open PySem PySem.Spec PyProof.Rows
section
variable {X:Cx}
end
end L2
namespace DL
open PySem PySem.Spec L2
inductive D where
 |non | bl (b:Bool) | int (i:Int) | str (x:Str) | tup (xs:List D) | lst (xs:List D) | scr (xs:List D) | ref (i:Nat)
 |exc (cn:Str) (fs:List (Str×Int))
inductive O where
 |lst (xs:List D) | dT (z:Option Obj) (kvs:List (List Key×D)) | dK (kvs:List (Key×D)) | ins (cn:Str) (fs:List (Str×D))
structure KP where
 K:PySem.W.Frag
 π:List Addr
noncomputable def VT(K:KP)(α:List Addr)(H:Hp)(a:Addr)(us:List V):Prop:=a ∉ α∧a ∉ K.π∧H a=some (.tup us)
noncomputable def VS(K:KP)(α:List Addr)(H:Hp)(a:Addr)(us:List V):Prop :=
 (a ∉ α∧a ∉ K.π∧Rd H a (.lst us))∨∃ (o:Obj) (its:Array Value) (n:Nat),K.K.lookup a=some o∧o.cls = .type "list"∧o.dict=none∧o.data = .seq its n∧its.size ≤ sizeLine∧Vals us its.toList
noncomputable def VL(K:KP)(α:List Addr)(H:Hp)(a:Addr)(us:List V):Prop:=a ∉ α∧a ∉ K.π∧H a=some (.lst us)
noncomputable def VE(K:KP)(α:List Addr)(H:Hp)(a:Addr)(o:HO):Prop:=a ∉ α∧a ∉ K.π∧H a=some o
noncomputable def xDict(fs:List (Str×Int))(dx:Addr)(h:Heap):Prop:=∃ mA,h.Ns1 dx mA∧PySem.Within mA (fs.map (·.1))∧∀ f,RelO ((fs.lookup f).map V.int) (mA f)
noncomputable def XD(H:Hp)(dx:Addr)(fs:List (Str×Int)):Prop:=H dx=some (.ext (xDict fs dx))
noncomputable def xAny(C:Addr)(dx:Option Addr)(a:Addr)(h:Heap):Prop:=∃ o vs,h.get? a=some o∧o.cls = .ref C∧o.dict=dx∧o.data = .fields vs
noncomputable def XQ(K:KP)(α:List Addr)(H:Hp)(dx:Option Addr)(fs:List (Str×Int)):Prop:=(dx=none∧fs=[])∨∃ d,dx=some d∧VE K α H d (.ext (xDict fs d))
theorem XQ.map{K K':KP}{α α':List Addr}{H H':Hp}{dx:Option Addr}{fs:List (Str×Int)}(hE:∀ a o,VE K α H a o→VE K' α' H' a o)(h:XQ K α H dx fs):XQ K' α' H' dx fs:=h.imp id fun ⟨d,e,v⟩=>⟨d,e,hE _ _ v⟩
theorem VT.sq{K:KP}{α:List Addr}{H:Hp}{a:Addr}{us:List V}(h:VT K α H a us):SqT K.K H a us:=.inl (.inl h.2.2)
theorem VS.sq{K:KP}{α:List Addr}{H:Hp}{a:Addr}{us:List V}(h:VS K α H a us):SqL K.K H a us:=by
 rcases h with ⟨_,_,h⟩ | h
 ·exact .inl h
 ·exact .inr h
theorem VL.sq{K:KP}{α:List Addr}{H:Hp}{a:Addr}{us:List V}(h:VL K α H a us):SqL K.K H a us:=SqL.of h.2.2
mutual
inductive RelD(K:KP)(α:List Addr)(H:Hp):D→V→Prop
 |non:RelD K α H .non .non
 |bl (b:Bool):RelD K α H (.bl b) (.bl b)
 |int (i:Int):RelD K α H (.int i) (.int i)
 |str (x:Str):RelD K α H (.str x) (.str x)
 |tup {a:Addr} {us:List V} {ds:List D}:VT K α H a us→RelDs K α H ds us→RelD K α H (.tup ds) (.ref a)
 |lst {a:Addr} {us:List V} {ds:List D}:VL K α H a us→RelDs K α H ds us→RelD K α H (.lst ds) (.ref a)
 |scr {a:Addr} {us:List V} {ds:List D}:VS K α H a us→RelDs K α H ds us→RelD K α H (.scr ds) (.ref a)
 |ref {i:Nat} {a:Addr}:α[i]?=some a→RelD K α H (.ref i) (.ref a)
 |exc {a C:Addr} {dx:Option Addr} {cn:Str} {fs:List (Str×Int)}:PySem.W.nsIn K.K mainGlobals cn=some (some (.ref C))→VE K α H a (.ext (xAny C dx a))→XQ K α H dx fs→RelD K α H (.exc cn fs) (.ref a)
inductive RelDs(K:KP)(α:List Addr)(H:Hp):List D→List V→Prop
 |nil:RelDs K α H [] []
 |cons {d:D} {u:V} {ds:List D} {us:List V}:RelD K α H d u→RelDs K α H ds us→RelDs K α H (d :: ds) (u :: us)
end
theorem RelD.map{K K':KP}{α α':List Addr}{H H':Hp}(hK:K'.K=K.K)(hT:∀ a us,VT K α H a us→VT K' α' H' a us)(hL:∀ a us,VL K α H a us→VL K' α' H' a us)(hS:∀ a us,VS K α H a us→VS K' α' H' a us)(hE:∀ a o,VE K α H a o→VE K' α' H' a o)
  (hR:∀ (i:Nat) (a:Addr),α[i]?=some a→α'[i]?=some a) {d:D} {v:V} (r:RelD K α H d v):RelD K' α' H' d v :=
 RelD.rec (motive_1:=fun d v _=>RelD K' α' H' d v) (motive_2:=fun ds us _=>RelDs K' α' H' ds us) .non .bl .int .str (fun t _ r=>.tup (hT _ _ t) r) (fun t _ r=>.lst (hL _ _ t) r) (fun t _ r=>.scr (hS _ _ t) r) (fun h=>.ref (hR _ _ h)) (fun n t r=>.exc (by rw [hK];exact n) (hE _ _ t) (r.map hE)) .nil (fun _ _ r t=>.cons r t) r
theorem RelDs.map{K K':KP}{α α':List Addr}{H H':Hp}(hK:K'.K=K.K)(hT:∀ a us,VT K α H a us→VT K' α' H' a us)(hL:∀ a us,VL K α H a us→VL K' α' H' a us)(hS:∀ a us,VS K α H a us→VS K' α' H' a us)(hE:∀ a o,VE K α H a o→VE K' α' H' a o)
  (hR:∀ (i:Nat) (a:Addr),α[i]?=some a→α'[i]?=some a) {ds:List D} {us:List V} (r:RelDs K α H ds us):RelDs K' α' H' ds us:=by
 induction ds generalizing us with
 |nil=>cases r;exact .nil
 |cons d ds ih=>cases r with | cons h t=>exact .cons (h.map hK hT hL hS hE hR) (ih t)
structure Ext(α:List Addr)(H:Hp)(α':List Addr)(H':Hp):Prop where
 pre:∃ β,α'=α ++ β∧∀ p ∈ β,H p=none
 keep:∀ b o,H b=some o→b ∉ α→H' b=some o
 dom:∀ b,H' b=none→H b=none
theorem Ext.refl(α:List Addr)(H:Hp):Ext α H α H:=⟨⟨[],by simp,fun p h=>nomatch h⟩,fun _ _ h _=>h,fun _ h=>h⟩
theorem Ext.out{α α':List Addr}{H H':Hp}(e:Ext α H α' H'){a:Addr}{o:HO}(h:a ∉ α)(ho:H a=some o):a ∉ α':=by
 obtain ⟨⟨β,rfl,hb⟩,_⟩:=e
 intro z
 rcases List.mem_append.mp z with z | z
 ·exact h z
 ·rw [hb a z] at ho;cases ho
theorem Ext.trans{α α' α'':List Addr}{H H' H'':Hp}(e:Ext α H α' H')(f:Ext α' H' α'' H''):Ext α H α'' H'':=by
 refine ⟨?_,fun b o h n=>f.keep b o (e.keep b o h n) (e.out n h),fun b h=>e.dom b (f.dom b h)⟩
 obtain ⟨⟨β,rfl,hb⟩,k,d⟩:=e
 obtain ⟨⟨γ,rfl,hc⟩,_⟩:=f
 refine ⟨β ++ γ,by simp,fun p hp=>?_⟩
 rcases List.mem_append.mp hp with z | z
 ·exact hb p z
 ·exact d p (hc p z)
theorem Ext.get{α α':List Addr}{H H':Hp}(e:Ext α H α' H'){i:Nat}{a:Addr}(h:α[i]?=some a):α'[i]?=some a:=by
 obtain ⟨⟨β,rfl,_⟩,_⟩:=e
 have hi:i < α.length:=(List.getElem?_eq_some_iff.mp h).1
 rw [List.getElem?_append_left hi];exact h
theorem Ext.new{α:List Addr}{H:Hp}{p:Addr}{o:HO}(h:H p=none):Ext α H α (upd H p o) :=
 ⟨⟨[],by simp,fun p h=>nomatch h⟩,fun b u e _=>by rw [upd_ne (ne_of_none e h)];exact e,fun b e=>by
  by_cases z:b=p
  ·subst z;rw [upd_same] at e;cases e
  ·rw [upd_ne z] at e;exact e⟩
theorem Ext.write{α:List Addr}{H:Hp}{p:Addr}{o:HO}(h:p ∈ α):Ext α H α (upd H p o) :=
 ⟨⟨[],by simp,fun p h=>nomatch h⟩,fun b u e n=>by rw [upd_ne (fun (z:b=p)=>n (by rw [z];exact h))];exact e,fun b e=>by
  by_cases z:b=p
  ·subst z;rw [upd_same] at e;cases e
  ·rw [upd_ne z] at e;exact e⟩
theorem VT.mono{K:KP}{α α':List Addr}{H H':Hp}(e:Ext α H α' H'){a:Addr}{us:List V}(h:VT K α H a us):VT K α' H' a us:=⟨e.out h.1 h.2.2,h.2.1,e.keep _ _ h.2.2 h.1⟩
theorem VS.mono{K:KP}{α α':List Addr}{H H':Hp}(e:Ext α H α' H'){a:Addr}{us:List V}(h:VS K α H a us):VS K α' H' a us:=by
 rcases h with ⟨n,m,h | ⟨o,h⟩⟩ | h
 ·exact .inl ⟨e.out n h,m,.inl (e.keep _ _ h n)⟩
 ·exact .inl ⟨e.out n h,m,.inr ⟨o,e.keep _ _ h n⟩⟩
 ·exact .inr h
theorem VL.mono{K:KP}{α α':List Addr}{H H':Hp}(e:Ext α H α' H'){a:Addr}{us:List V}(h:VL K α H a us):VL K α' H' a us:=⟨e.out h.1 h.2.2,h.2.1,e.keep _ _ h.2.2 h.1⟩
theorem VE.mono{K:KP}{α α':List Addr}{H H':Hp}(e:Ext α H α' H'){a:Addr}{u:HO}(h:VE K α H a u):VE K α' H' a u:=⟨e.out h.1 h.2.2,h.2.1,e.keep _ _ h.2.2 h.1⟩
theorem RelD.mono{K:KP}{α α':List Addr}{H H':Hp}(e:Ext α H α' H'){d:D}{v:V}(r:RelD K α H d v):RelD K α' H' d v:=r.map rfl (fun _ _ t=>t.mono e) (fun _ _ t=>t.mono e) (fun _ _ t=>t.mono e) (fun _ _ t=>t.mono e) (fun _ _ h=>e.get h)
theorem RelDs.mono{K:KP}{α α':List Addr}{H H':Hp}(e:Ext α H α' H'){ds:List D}{us:List V}(r:RelDs K α H ds us):RelDs K α' H' ds us:=r.map rfl (fun _ _ t=>t.mono e) (fun _ _ t=>t.mono e) (fun _ _ t=>t.mono e) (fun _ _ t=>t.mono e) (fun _ _ h=>e.get h)
section
variable {K:KP} {α α':List Addr} {H H':Hp}
theorem RelDs.length:∀ {ds:List D} {us:List V},RelDs K α H ds us→ds.length=us.length
 |_,_,.nil=>rfl
 |_,_,.cons _ t=>by rw [List.length_cons,List.length_cons,RelDs.length t]
theorem RelDs.get:∀ {ds:List D} {us:List V} {i:Nat} {d:D},RelDs K α H ds us→ds[i]?=some d→∃ u,us[i]?=some u∧RelD K α H d u
 |_,_,_,_,.nil,e=>by simp at e
 |_,_,0,_,.cons r _,e=>by simp at e;subst e;exact ⟨_,rfl,r⟩
 |_,_,i + 1,d,.cons _ t,e=>by
  obtain ⟨u,h1,h2⟩:=RelDs.get (i:=i) (d:=d) t (by simpa using e)
  exact ⟨u,by simpa using h1,h2⟩
theorem RelDs.append:∀ {ds es:List D} {us ws:List V},RelDs K α H ds us→RelDs K α H es ws→RelDs K α H (ds ++ es) (us ++ ws)
 |_,_,_,_,.nil,s=>s
 |_,_,_,_,.cons r t,s=>.cons r (RelDs.append t s)
theorem RelDs.take:∀ {ds:List D} {us:List V} (n:Nat),RelDs K α H ds us→RelDs K α H (ds.take n) (us.take n)
 |_,_,0,_=>.nil
 |_,_,_ + 1,.nil=>.nil
 |_,_,n + 1,.cons r t=>.cons r (RelDs.take n t)
theorem RelDs.drop:∀ {ds:List D} {us:List V} (n:Nat),RelDs K α H ds us→RelDs K α H (ds.drop n) (us.drop n)
 |_,_,0,r=>r
 |_,_,_ + 1,.nil=>.nil
 |_,_,n + 1,.cons _ t=>RelDs.drop n t
theorem RelDs.set{d:D}{u:V}(r:RelD K α H d u):∀ {ds:List D} {us:List V} (i:Nat),RelDs K α H ds us→RelDs K α H (ds.set i d) (us.set i u)
 |_,_,_,.nil=>.nil
 |_,_,0,.cons _ t=>.cons r t
 |_,_,i + 1,.cons q t=>.cons q (RelDs.set r i t)
theorem RelDs.snoc{ds:List D}{us:List V}{d:D}{u:V}(r:RelDs K α H ds us)(h:RelD K α H d u):RelDs K α H (ds ++ [d]) (us ++ [u]):=r.append (.cons h .nil)
theorem RelDs.ints:∀ ns:List Int,RelDs K α H (ns.map D.int) (ns.map V.int)
 |[]=>.nil
 |n :: r=>.cons (.int n) (RelDs.ints r)
theorem RelDs.ints_inv{ns:List Int}{us:List V}(r:RelDs K α H (ns.map D.int) us):us=ns.map V.int:=by
 induction ns generalizing us with
 |nil=>cases r;rfl
 |cons n ns ih=>cases r with | cons h t=>cases h;rw [ih t];rfl
theorem RelDs.inv1{d:D}{us:List V}(h:RelDs K α H [d] us):∃ u,us=[u]∧RelD K α H d u:=by
 cases h with
 |cons r t=>cases t;exact ⟨_,rfl,r⟩
theorem RelDs.inv2{d e:D}{us:List V}(h:RelDs K α H [d,e] us):∃ u v,us=[u,v]∧RelD K α H d u∧RelD K α H e v:=by
 cases h with
 |cons r t =>
  obtain ⟨v,rfl,q⟩:=t.inv1
  exact ⟨_,_,rfl,r,q⟩
end
inductive RelKV(K:KP)(α:List Addr)(H:Hp){κ:Type}:List (κ×D)→List (κ×V)→Prop
 |nil:RelKV K α H [] []
 |cons {k:κ} {d:D} {u:V} {ds:List (κ×D)} {us:List (κ×V)}:RelD K α H d u→RelKV K α H ds us→RelKV K α H ((k,d) :: ds) ((k,u) :: us)
theorem RelKV.mono{K:KP}{α α':List Addr}{H H':Hp}{κ:Type}(e:Ext α H α' H'){ds:List (κ×D)}{us:List (κ×V)}(r:RelKV K α H ds us):RelKV K α' H' ds us:=by
 induction r with
 |nil=>exact .nil
 |cons h t ih=>exact .cons (h.mono e) ih
noncomputable def frzO:Option Obj→HO→HO
 |none,u=>u
 |some o,u=>.frz o u
inductive RelO'(K:KP)(α:List Addr)(H:Hp)(p:Addr):O→Prop
 |lst {xs:List D} {us:List V}:H p=some (.lst us)→RelDs K α H xs us→RelO' K α H p (.lst xs)
 |dT {z:Option Obj} {kvs:List (List Key×D)} {us:List (List Key×V)}:H p=some (frzO z (.dT us))→RelKV K α H kvs us→RelO' K α H p (.dT z kvs)
 |dK {kvs:List (Key×D)} {us:List (Key×V)}:H p=some (.dK us)→RelKV K α H kvs us→RelO' K α H p (.dK kvs)
 |ins {C dx:Addr} {cn:Str} {fs:List (Str×D)} {us:List (Str×V)}:PySem.W.nsIn K.K mainGlobals cn=some (some (.ref C))→H p=some (.ins C dx us)→RelKV K α H fs us→RelO' K α H p (.ins cn fs)
noncomputable def NoT(o:Option HO):Prop:=o ≠ none∧∀ us,o ≠ some (.tup us)
structure HRel(K:KP)(α:List Addr)(H:Hp)(h:List O):Prop where
 len:α.length=h.length
 nd:α.Nodup
 dis:∀ p ∈ K.π,p ∉ α∧NoT (H p)
 obj:∀ (i:Nat) (o:O),h[i]?=some o→∃ p,α[i]?=some p∧RelO' K α H p o
theorem NoT.ext{α α':List Addr}{H H':Hp}{p:Addr}(h:NoT (H p))(e:Ext α H α' H')(n:p ∉ α):NoT (H' p):=by
 cases q:H p with
 |none=>exact absurd q h.1
 |some o =>
  rw [e.keep p o q n]
  rw [q] at h
  exact h
theorem RelO'.mono{K:KP}{α α':List Addr}{H H':Hp}(e:Ext α H α' H'){p:Addr}{o:O}(r:RelO' K α H p o)(k:H' p=H p):RelO' K α' H' p o:=by
 cases r with
 |lst h t=>exact .lst (k.trans h) (t.mono e)
 |dT h t=>exact .dT (k.trans h) (t.mono e)
 |dK h t=>exact .dK (k.trans h) (t.mono e)
 |ins n h t=>exact .ins n (k.trans h) (t.mono e)
section
variable {K:KP} {α α':List Addr} {H H':Hp} {h:List O}
theorem HRel.some_(R:HRel K α H h){p:Addr}(hp:p ∈ α):∃ o,H p=some o:=by
 obtain ⟨i,hi,rfl⟩:=List.getElem_of_mem hp
 have hh:i < h.length:=by rw [← R.len];exact hi
 obtain ⟨q,e,r⟩:=R.obj i h[i] (List.getElem?_eq_getElem hh)
 rw [List.getElem?_eq_getElem hi] at e
 cases e
 generalize h[i]=o at r
 cases r with
 |lst h t=>exact ⟨_,h⟩
 |dT h t=>exact ⟨_,h⟩
 |dK h t=>exact ⟨_,h⟩
 |ins n h t=>exact ⟨_,h⟩
theorem HRel.out(R:HRel K α H h){p:Addr}(hp:H p=none):p ∉ α:=fun z=>by
 obtain ⟨o,e⟩:=R.some_ z
 rw [hp] at e;cases e
theorem HRel.same(R:HRel K α H h)(e:Ext α H α H')(k:∀ p ∈ α,H' p=H p):HRel K α H' h :=
 ⟨R.len,R.nd,fun p hp=>⟨(R.dis p hp).1,(R.dis p hp).2.ext e (R.dis p hp).1⟩,fun i o q=>by
  obtain ⟨p,ep,r⟩:=R.obj i o q
  exact ⟨p,ep,r.mono e (k p (List.mem_of_getElem? ep))⟩⟩
theorem HRel.new(R:HRel K α H h){p:Addr}{o:HO}(hp:H p=none):HRel K α (upd H p o) h :=
 R.same (Ext.new hp) fun q hq=>upd_ne fun z=>R.out hp (z ▸ hq)
theorem HRel.write(R:HRel K α H h){p:Addr}{i:Nat}{o:HO}{u:O}(hp:α[i]?=some p)(r:RelO' K α (upd H p o) p u):HRel K α (upd H p o) (h.set i u):=by
 have hm:=List.mem_of_getElem? hp
 refine ⟨by simp [R.len],R.nd,fun q hq=>⟨(R.dis q hq).1,(R.dis q hq).2.ext (Ext.write (H:=H) (o:=o) hm) (R.dis q hq).1⟩,fun j v q=>?_⟩
 by_cases e:i=j
 ·subst e
  have hi:i < h.length:=by
   have:=(List.getElem?_eq_some_iff.mp q).1
   simpa using this
  rw [List.getElem?_set_self hi] at q
  cases q
  exact ⟨p,hp,r⟩
 ·rw [List.getElem?_set_ne e] at q
  obtain ⟨a,ea,ra⟩:=R.obj j v q
  refine ⟨a,ea,ra.mono (Ext.write hm) (upd_ne fun z=>e ?_)⟩
  subst z
  exact (List.getElem?_inj (List.getElem?_eq_some_iff.mp hp).1 R.nd).mp (hp.trans ea.symm)
theorem HRel.lst(R:HRel K α H h){i:Nat}{xs:List D}(e:h[i]?=some (.lst xs)):∃ p us,α[i]?=some p∧H p=some (.lst us)∧RelDs K α H xs us:=by
 obtain ⟨p,ep,r⟩:=R.obj i _ e
 cases r with
 |lst h t=>exact ⟨p,_,ep,h,t⟩
theorem HRel.dT(R:HRel K α H h){i:Nat}{z:Option Obj}{xs:List (List Key×D)}(e:h[i]?=some (.dT z xs)):∃ p us,α[i]?=some p∧H p=some (frzO z (.dT us))∧RelKV K α H xs us:=by
 obtain ⟨p,ep,r⟩:=R.obj i _ e
 cases r with
 |dT h t=>exact ⟨p,_,ep,h,t⟩
theorem HRel.dK(R:HRel K α H h){i:Nat}{xs:List (Key×D)}(e:h[i]?=some (.dK xs)):∃ p us,α[i]?=some p∧H p=some (.dK us)∧RelKV K α H xs us:=by
 obtain ⟨p,ep,r⟩:=R.obj i _ e
 cases r with
 |dK h t=>exact ⟨p,_,ep,h,t⟩
end
theorem HRel.outP{K:KP}{α:List Addr}{H:Hp}{h:List O}(R:HRel K α H h){p:Addr}(hp:H p=none):p ∉ K.π:=fun z=>(R.dis p z).2.1 hp
structure Priv(D:Addr)(H H':Hp):Prop where
 same:∀ b,b ≠ D→H' b=H b
theorem VT.priv{K:KP}{α:List Addr}{H H':Hp}{D a:Addr}{us:List V}(e:Priv D H H')(hD:D ∈ K.π)(h:VT K α H a us):VT K α H' a us :=
 ⟨h.1,h.2.1,(e.same a fun z=>h.2.1 (z ▸ hD)).trans h.2.2⟩
theorem VS.priv{K:KP}{α:List Addr}{H H':Hp}{D a:Addr}{us:List V}(e:Priv D H H')(hD:D ∈ K.π)(h:VS K α H a us):VS K α H' a us:=by
 rcases h with ⟨n,m,h⟩ | h
 ·have z:a ≠ D:=fun z=>m (z ▸ hD)
  refine .inl ⟨n,m,?_⟩
  unfold Rd at h ⊢
  rw [e.same a z];exact h
 ·exact .inr h
theorem VL.priv{K:KP}{α:List Addr}{H H':Hp}{D a:Addr}{us:List V}(e:Priv D H H')(hD:D ∈ K.π)(h:VL K α H a us):VL K α H' a us :=
 ⟨h.1,h.2.1,(e.same a fun z=>h.2.1 (z ▸ hD)).trans h.2.2⟩
theorem VE.priv{K:KP}{α:List Addr}{H H':Hp}{D a:Addr}{u:HO}(e:Priv D H H')(hD:D ∈ K.π)(h:VE K α H a u):VE K α H' a u :=
 ⟨h.1,h.2.1,(e.same a fun z=>h.2.1 (z ▸ hD)).trans h.2.2⟩
theorem RelD.priv{K:KP}{α:List Addr}{H H':Hp}{D':Addr}(e:Priv D' H H')(hD:D' ∈ K.π){d:D}{v:V}(r:RelD K α H d v):RelD K α H' d v:=r.map rfl (fun _ _ t=>t.priv e hD) (fun _ _ t=>t.priv e hD) (fun _ _ t=>t.priv e hD) (fun _ _ t=>t.priv e hD) (fun _ _ h=>h)
theorem RelDs.priv{K:KP}{α:List Addr}{H H':Hp}{D':Addr}(e:Priv D' H H')(hD:D' ∈ K.π){ds:List D}{us:List V}(r:RelDs K α H ds us):RelDs K α H' ds us:=r.map rfl (fun _ _ t=>t.priv e hD) (fun _ _ t=>t.priv e hD) (fun _ _ t=>t.priv e hD) (fun _ _ t=>t.priv e hD) (fun _ _ h=>h)
theorem RelKV.priv{K:KP}{α:List Addr}{H H':Hp}{D':Addr}{κ:Type}(e:Priv D' H H')(hD:D' ∈ K.π){ds:List (κ×D)}{us:List (κ×V)}(r:RelKV K α H ds us):RelKV K α H' ds us:=by
 induction r with
 |nil=>exact .nil
 |cons h t ih=>exact .cons (h.priv e hD) ih
theorem HRel.priv{K:KP}{α:List Addr}{H H':Hp}{h:List O}{D':Addr}(e:Priv D' H H')(hD:D' ∈ K.π)(hs:NoT (H' D'))(R:HRel K α H h):HRel K α H' h :=
 ⟨R.len,R.nd,fun p hp=>⟨(R.dis p hp).1,by
  by_cases z:p=D'
  ·rw [z];exact hs
  ·rw [e.same p z];exact (R.dis p hp).2⟩,fun i o q=>by
  obtain ⟨p,ep,r⟩:=R.obj i o q
  have z:p ≠ D':=fun z=>(R.dis D' hD).1 (z ▸ List.mem_of_getElem? ep)
  refine ⟨p,ep,?_⟩
  cases r with
  |lst h t=>exact .lst ((e.same p z).trans h) (t.priv e hD)
  |dT h t=>exact .dT ((e.same p z).trans h) (t.priv e hD)
  |dK h t=>exact .dK ((e.same p z).trans h) (t.priv e hD)
  |ins n h t=>exact .ins n ((e.same p z).trans h) (t.priv e hD)⟩
theorem VT.more{K:PySem.W.Frag}{π π':List Addr}{α:List Addr}{H:Hp}{a:Addr}{us:List V}(s:∀ p ∈ π',p ∈ π∨H p=none)(h:VT ⟨K,π⟩ α H a us):VT ⟨K,π'⟩ α H a us :=
 ⟨h.1,fun z=>(s a z).elim h.2.1 (fun w=>by rw [h.2.2] at w;exact nomatch w),h.2.2⟩
theorem VS.more{K:PySem.W.Frag}{π π':List Addr}{α:List Addr}{H:Hp}{a:Addr}{us:List V}(s:∀ p ∈ π',p ∈ π∨H p=none)(h:VS ⟨K,π⟩ α H a us):VS ⟨K,π'⟩ α H a us:=by
 rcases h with ⟨n,m,h⟩ | h
 ·refine .inl ⟨n,fun z=>?_,h⟩
  rcases s a z with z | z
  ·exact m z
  ·rcases h with h | ⟨o,h⟩ <;> rw [z] at h <;> cases h
 ·exact .inr h
theorem VL.more{K:PySem.W.Frag}{π π':List Addr}{α:List Addr}{H:Hp}{a:Addr}{us:List V}(s:∀ p ∈ π',p ∈ π∨H p=none)(h:VL ⟨K,π⟩ α H a us):VL ⟨K,π'⟩ α H a us :=
 ⟨h.1,fun z=>(s a z).elim h.2.1 (fun w=>by rw [h.2.2] at w;exact nomatch w),h.2.2⟩
theorem VE.more{K:PySem.W.Frag}{π π':List Addr}{α:List Addr}{H:Hp}{a:Addr}{u:HO}(s:∀ p ∈ π',p ∈ π∨H p=none)(h:VE ⟨K,π⟩ α H a u):VE ⟨K,π'⟩ α H a u :=
 ⟨h.1,fun z=>(s a z).elim h.2.1 (fun w=>by rw [h.2.2] at w;exact nomatch w),h.2.2⟩
theorem RelD.more{K:PySem.W.Frag}{π π':List Addr}{α:List Addr}{H:Hp}(s:∀ p ∈ π',p ∈ π∨H p=none){d:D}{v:V}(r:RelD ⟨K,π⟩ α H d v):RelD ⟨K,π'⟩ α H d v:=r.map (K:=⟨K,π⟩) (K':=⟨K,π'⟩) rfl (fun _ _ t=>t.more s) (fun _ _ t=>t.more s) (fun _ _ t=>t.more s) (fun _ _ t=>t.more s) (fun _ _ h=>h)
theorem RelDs.more{K:PySem.W.Frag}{π π':List Addr}{α:List Addr}{H:Hp}(s:∀ p ∈ π',p ∈ π∨H p=none){ds:List D}{us:List V}(r:RelDs ⟨K,π⟩ α H ds us):RelDs ⟨K,π'⟩ α H ds us:=r.map (K:=⟨K,π⟩) (K':=⟨K,π'⟩) rfl (fun _ _ t=>t.more s) (fun _ _ t=>t.more s) (fun _ _ t=>t.more s) (fun _ _ t=>t.more s) (fun _ _ h=>h)
theorem RelKV.more{K:PySem.W.Frag}{π π':List Addr}{α:List Addr}{H:Hp}{κ:Type}(s:∀ p ∈ π',p ∈ π∨H p=none){ds:List (κ×D)}{us:List (κ×V)}(r:RelKV ⟨K,π⟩ α H ds us):RelKV ⟨K,π'⟩ α H ds us:=by
 induction r with
 |nil=>exact .nil
 |cons h t ih=>exact .cons (h.more s) ih
theorem HRel.more{K:PySem.W.Frag}{π π':List Addr}{α:List Addr}{H:Hp}{h:List O}(s:∀ p ∈ π',p ∈ π∨H p=none)(d:∀ p ∈ π',p ∉ α∧NoT (H p))(R:HRel ⟨K,π⟩ α H h):HRel ⟨K,π'⟩ α H h :=
 ⟨R.len,R.nd,d,fun i o q=>by
  obtain ⟨p,ep,r⟩:=R.obj i o q
  refine ⟨p,ep,?_⟩
  cases r with
  |lst h t=>exact .lst h (t.more s)
  |dT h t=>exact .dT h (t.more s)
  |dK h t=>exact .dK h (t.more s)
  |ins n h t=>exact .ins n h (t.more s)⟩
noncomputable abbrev Sl:=List (Option D)
noncomputable abbrev Hh:=List O
noncomputable abbrev DK:=D→Hh→Prop
noncomputable abbrev DE:=Sl→Hh→DK→Prop
noncomputable abbrev DT:=Sl→Hh→(Bool→Hh→Prop)→Prop
noncomputable abbrev DA:=Sl→Hh→(List D→Hh→Prop)→Prop
noncomputable abbrev DX:=Str→List (Str×Int)→Hh→Prop
structure DEnds where
 nx:Sl→Hh→Prop
 rt:DK
 bk:Sl→Hh→Prop:=fun _ _=>False
 ct:Sl→Hh→Prop:=fun _ _=>False
 ex:DX:=fun _ _ _=>False
noncomputable abbrev DS:=DEnds→Sl→Hh→Prop
noncomputable abbrev DG:=D→Sl→Hh→(Sl→Hh→Prop)→Prop
noncomputable abbrev DGs:=List D→Sl→Hh→(Sl→Hh→Prop)→Prop
structure RelS(K:KP)(α:List Addr)(H:Hp)(δ:Sl)(σ:St):Prop where
 len:δ.length=σ.length
 get:∀ (i:Nat) (d:D),δ[i]?=some (some d)→∃ v,σ[i]?=some (some v)∧RelD K α H d v
theorem RelS.mono{K:KP}{α α':List Addr}{H H':Hp}{δ:Sl}{σ:St}(e:Ext α H α' H')(r:RelS K α H δ σ):RelS K α' H' δ σ :=
 ⟨r.len,fun i d q=>let ⟨v,h1,h2⟩:=r.get i d q;⟨v,h1,h2.mono e⟩⟩
theorem RelS.set{K:KP}{α:List Addr}{H:Hp}{δ:Sl}{σ:St}{d:D}{v:V}(r:RelS K α H δ σ)(i:Nat)(h:RelD K α H d v):RelS K α H (δ.set i (some d)) (σ.set i (some v)):=by
 refine ⟨by simp [r.len],fun j e q=>?_⟩
 by_cases z:i=j
 ·subst z
  have hi:i < δ.length:=by
   have:=(List.getElem?_eq_some_iff.mp q).1
   simpa using this
  rw [List.getElem?_set_self hi] at q
  cases q
  exact ⟨v,List.getElem?_set_self (by rw [← r.len];exact hi),h⟩
 ·rw [List.getElem?_set_ne z] at q
  obtain ⟨w,h1,h2⟩:=r.get j e q
  exact ⟨w,by rw [List.getElem?_set_ne z];exact h1,h2⟩
inductive LE(K:PySem.W.Frag)(f:DE)(σ:St)(H:Hp)(Q:VK):Prop
 |mk (π:List Addr) (α:List Addr) (δ:Sl) (h:Hh) (Q':DK):HRel ⟨K,π⟩ α H h→RelS ⟨K,π⟩ α H δ σ→f δ h Q'→(∀ d h' α' H' v,Q' d h'→Ext α H α' H'→HRel ⟨K,π⟩ α' H' h'→RelD ⟨K,π⟩ α' H' d v→Q v H')→LE K f σ H Q
inductive LT(K:PySem.W.Frag)(f:DT)(σ:St)(H:Hp)(Q:Bool→Hp→Prop):Prop
 |mk (π:List Addr) (α:List Addr) (δ:Sl) (h:Hh) (Q':Bool→Hh→Prop):HRel ⟨K,π⟩ α H h→RelS ⟨K,π⟩ α H δ σ→f δ h Q'→(∀ b h' α' H',Q' b h'→Ext α H α' H'→HRel ⟨K,π⟩ α' H' h'→Q b H')→LT K f σ H Q
inductive LA(K:PySem.W.Frag)(n:Nat)(f:DA)(σ:St)(H:Hp)(Q:List V→Hp→Prop):Prop
 |mk (π:List Addr) (α:List Addr) (δ:Sl) (h:Hh) (Q':List D→Hh→Prop):HRel ⟨K,π⟩ α H h→RelS ⟨K,π⟩ α H δ σ→f δ h Q'→(∀ ds h' α' H' vs,Q' ds h'→Ext α H α' H'→HRel ⟨K,π⟩ α' H' h'→RelDs ⟨K,π⟩ α' H' ds vs→ds.length=n→Q vs H')→LA K n f σ H Q
structure EndsOk(K:KP)(Ex:XK)(α:List Addr)(H:Hp)(E:DEnds)(F:Ends):Prop where
 nx:∀ δ' h' α' H' σ',E.nx δ' h'→Ext α H α' H'→HRel K α' H' h'→RelS K α' H' δ' σ'→F.nx σ' H'
 rt:∀ d h' α' H' v,E.rt d h'→Ext α H α' H'→HRel K α' H' h'→RelD K α' H' d v→F.rt v H'
 bk:∀ δ' h' α' H' σ',E.bk δ' h'→Ext α H α' H'→HRel K α' H' h'→RelS K α' H' δ' σ'→F.bk σ' H'
 ct:∀ δ' h' α' H' σ',E.ct δ' h'→Ext α H α' H'→HRel K α' H' h'→RelS K α' H' δ' σ'→F.ct σ' H'
 ex:∀ cn fs h' α' H' C dx,E.ex cn fs h'→Ext α H α' H'→HRel K α' H' h'→PySem.W.nsIn K.K mainGlobals cn=some (some (.ref C))→XQ K α' H' dx fs→Ex (.ref C) dx H'
theorem EndsOk.mono{K:KP}{Ex:XK}{α α':List Addr}{H H':Hp}{E:DEnds}{F:Ends}(x:EndsOk K Ex α H E F)(e:Ext α H α' H'):EndsOk K Ex α' H' E F :=
 ⟨fun _ _ _ _ _ a b c d=>x.nx _ _ _ _ _ a (e.trans b) c d,fun _ _ _ _ _ a b c d=>x.rt _ _ _ _ _ a (e.trans b) c d,fun _ _ _ _ _ a b c d=>x.bk _ _ _ _ _ a (e.trans b) c d,fun _ _ _ _ _ a b c d=>x.ct _ _ _ _ _ a (e.trans b) c d,fun _ _ _ _ _ _ _ a b c d=>x.ex _ _ _ _ _ _ _ a (e.trans b) c d⟩
inductive LS(K:PySem.W.Frag)(Ex:XK)(f:DS)(F:Ends)(σ:St)(H:Hp):Prop
 |mk (π:List Addr) (α:List Addr) (δ:Sl) (h:Hh) (E:DEnds):HRel ⟨K,π⟩ α H h→RelS ⟨K,π⟩ α H δ σ→f E δ h→EndsOk ⟨K,π⟩ Ex α H E F→LS K Ex f F σ H
inductive LG(K:PySem.W.Frag)(f:DG)(v:V)(σ:St)(H:Hp)(Q:St→Hp→Prop):Prop
 |mk (π:List Addr) (α:List Addr) (δ:Sl) (h:Hh) (d:D) (Q':Sl→Hh→Prop):HRel ⟨K,π⟩ α H h→RelS ⟨K,π⟩ α H δ σ→RelD ⟨K,π⟩ α H d v→f d δ h Q'→(∀ δ' h' α' H' σ',Q' δ' h'→Ext α H α' H'→HRel ⟨K,π⟩ α' H' h'→RelS ⟨K,π⟩ α' H' δ' σ'→Q σ' H')→LG K f v σ H Q
inductive LGs(K:PySem.W.Frag)(f:DGs)(vs:List V)(σ:St)(H:Hp)(Q:St→Hp→Prop):Prop
 |mk (π:List Addr) (α:List Addr) (δ:Sl) (h:Hh) (ds:List D) (Q':Sl→Hh→Prop):HRel ⟨K,π⟩ α H h→RelS ⟨K,π⟩ α H δ σ→RelDs ⟨K,π⟩ α H ds vs→f ds δ h Q'→(∀ δ' h' α' H' σ',Q' δ' h'→Ext α H α' H'→HRel ⟨K,π⟩ α' H' h'→RelS ⟨K,π⟩ α' H' δ' σ'→Q σ' H')→LGs K f vs σ H Q
theorem HRel.under{K:PySem.W.Frag}{π α:List Addr}{H:Hp}{h:Hh}{p:Addr}{o:HO}(R:HRel ⟨K,π⟩ α H h)(hp:H p=none)(ho:∀ us,o ≠ .tup us:=by intro _ z;cases z):HRel ⟨K,p :: π⟩ α (upd H p o) h:=by
 have s:∀ q ∈ p :: π,q ∈ π∨H q=none:=fun q hq=>by
  rcases List.mem_cons.mp hq with rfl | z
  ·exact .inr hp
  ·exact .inl z
 refine ⟨R.len,R.nd,fun q hq=>?_,fun i ob e=>?_⟩
 ·rcases List.mem_cons.mp hq with rfl | z
  ·exact ⟨R.out hp,by rw [upd_same];exact ⟨(fun z=>by cases z),fun us z=>ho us (Option.some.inj z)⟩⟩
  ·exact ⟨(R.dis q z).1,(R.dis q z).2.ext (Ext.new (α:=α) hp) (R.dis q z).1⟩
 ·obtain ⟨a,ea,r⟩:=R.obj i ob e
  refine ⟨a,ea,?_⟩
  have k:upd H p o a=H a:=upd_ne fun z=>R.out hp (z ▸ List.mem_of_getElem? ea)
  have e2:Ext α H α (upd H p o):=Ext.new hp
  cases r with
  |lst h t=>exact .lst (k.trans h) ((t.more s).mono e2)
  |dT h t=>exact .dT (k.trans h) ((t.more s).mono e2)
  |dK h t=>exact .dK (k.trans h) ((t.more s).mono e2)
  |ins n h t=>exact .ins n (k.trans h) ((t.more s).mono e2)
theorem HRel.less{K:PySem.W.Frag}{π α:List Addr}{H:Hp}{h:Hh}{p:Addr}(R:HRel ⟨K,p :: π⟩ α H h):HRel ⟨K,π⟩ α H h :=
 R.more (fun q hq=>.inl (List.mem_cons_of_mem _ hq)) fun q hq=>R.dis q (List.mem_cons_of_mem _ hq)
theorem RelS.more{K:PySem.W.Frag}{π π' α:List Addr}{H:Hp}{δ:Sl}{σ:L2.St}(s:∀ p ∈ π',p ∈ π∨H p=none)(S:RelS ⟨K,π⟩ α H δ σ):RelS ⟨K,π'⟩ α H δ σ :=
 ⟨S.len,fun i d q=>let ⟨v,a,b⟩:=S.get i d q;⟨v,a,b.more s⟩⟩
theorem RelS.priv{K:KP}{α:List Addr}{H H':Hp}{δ:Sl}{σ:L2.St}{D':Addr}(e:Priv D' H H')(hD:D' ∈ K.π)(S:RelS K α H δ σ):RelS K α H' δ σ :=
 ⟨S.len,fun i d q=>let ⟨v,a,b⟩:=S.get i d q;⟨v,a,b.priv e hD⟩⟩
theorem Ext.grow{α α':List Addr}{H H':Hp}{p:Addr}{o:HO}(e:Ext α H α' H')(hp:H p=none):Ext α H α' (upd H' p o) :=
 ⟨e.pre,fun b u q n=>by rw [upd_ne (ne_of_none q hp)];exact e.keep b u q n,fun b q=>by
  by_cases z:b=p
  ·subst z;exact hp
  ·rw [upd_ne z] at q;exact e.dom b q⟩
theorem VT.adopt{K:PySem.W.Frag}{π α:List Addr}{H:Hp}{p a:Addr}{us:List V}(h:VT ⟨K,p :: π⟩ α H a us):VT ⟨K,π⟩ (α ++ [p]) H a us :=
 ⟨fun z=>(List.mem_append.mp z).elim h.1 fun z=>h.2.1 (by rw [List.mem_singleton.mp z];exact List.mem_cons_self),fun z=>h.2.1 (List.mem_cons_of_mem _ z),h.2.2⟩
theorem VS.adopt{K:PySem.W.Frag}{π α:List Addr}{H:Hp}{p a:Addr}{us:List V}(h:VS ⟨K,p :: π⟩ α H a us):VS ⟨K,π⟩ (α ++ [p]) H a us:=by
 rcases h with ⟨n,m,h⟩ | h
 ·refine .inl ⟨fun z=>?_,fun z=>m (List.mem_cons_of_mem _ z),h⟩
  rcases List.mem_append.mp z with z | z
  ·exact n z
  ·exact m (by rw [List.mem_singleton.mp z];exact List.mem_cons_self)
 ·exact .inr h
theorem VL.adopt{K:PySem.W.Frag}{π α:List Addr}{H:Hp}{p a:Addr}{us:List V}(h:VL ⟨K,p :: π⟩ α H a us):VL ⟨K,π⟩ (α ++ [p]) H a us :=
 ⟨fun z=>(List.mem_append.mp z).elim h.1 fun z=>h.2.1 (by rw [List.mem_singleton.mp z];exact List.mem_cons_self),fun z=>h.2.1 (List.mem_cons_of_mem _ z),h.2.2⟩
theorem VE.adopt{K:PySem.W.Frag}{π α:List Addr}{H:Hp}{p a:Addr}{u:HO}(h:VE ⟨K,p :: π⟩ α H a u):VE ⟨K,π⟩ (α ++ [p]) H a u :=
 ⟨fun z=>(List.mem_append.mp z).elim h.1 fun z=>h.2.1 (by rw [List.mem_singleton.mp z];exact List.mem_cons_self),fun z=>h.2.1 (List.mem_cons_of_mem _ z),h.2.2⟩
theorem get_app{α:List Addr}{p a:Addr}{i:Nat}(h:α[i]?=some a):(α ++ [p])[i]?=some a:=by
 rw [List.getElem?_append_left (List.getElem?_eq_some_iff.mp h).1];exact h
theorem RelD.adopt{K:PySem.W.Frag}{π α:List Addr}{H:Hp}{p:Addr}{d:D}{v:V}(r:RelD ⟨K,p :: π⟩ α H d v):RelD ⟨K,π⟩ (α ++ [p]) H d v:=r.map (K:=⟨K,p :: π⟩) (K':=⟨K,π⟩) (α':=α ++ [p]) (H':=H) rfl (fun _ _ t=>t.adopt) (fun _ _ t=>t.adopt) (fun _ _ t=>t.adopt) (fun _ _ t=>t.adopt) (fun _ _ h=>get_app h)
theorem RelDs.adopt{K:PySem.W.Frag}{π α:List Addr}{H:Hp}{p:Addr}{ds:List D}{us:List V}(r:RelDs ⟨K,p :: π⟩ α H ds us):RelDs ⟨K,π⟩ (α ++ [p]) H ds us:=r.map (K:=⟨K,p :: π⟩) (K':=⟨K,π⟩) (α':=α ++ [p]) (H':=H) rfl (fun _ _ t=>t.adopt) (fun _ _ t=>t.adopt) (fun _ _ t=>t.adopt) (fun _ _ t=>t.adopt) (fun _ _ h=>get_app h)
theorem RelKV.adopt{K:PySem.W.Frag}{π α:List Addr}{H:Hp}{p:Addr}{κ:Type}{ds:List (κ×D)}{us:List (κ×V)}(r:RelKV ⟨K,p :: π⟩ α H ds us):RelKV ⟨K,π⟩ (α ++ [p]) H ds us:=by
 induction r with
 |nil=>exact .nil
 |cons h t ih=>exact .cons h.adopt ih
theorem HRel.adopt{K:PySem.W.Frag}{π α:List Addr}{H:Hp}{h:Hh}{p:Addr}{u:O}(R:HRel ⟨K,p :: π⟩ α H h)(np:p ∉ π)(r:RelO' ⟨K,π⟩ (α ++ [p]) H p u):HRel ⟨K,π⟩ (α ++ [p]) H (h ++ [u]):=by
 have hp:=R.dis p List.mem_cons_self
 refine ⟨by simp [R.len],?_,fun q hq=>⟨fun z=>?_,(R.dis q (List.mem_cons_of_mem _ hq)).2⟩,fun i v q=>?_⟩
 ·rw [List.nodup_append]
  exact ⟨R.nd,by simp,fun a ha b hb=>by rw [List.mem_singleton.mp hb];exact fun z=>hp.1 (z ▸ ha)⟩
 ·rcases List.mem_append.mp z with z | z
  ·exact (R.dis q (List.mem_cons_of_mem _ hq)).1 z
  ·rw [List.mem_singleton.mp z] at hq;exact np hq
 ·by_cases hi:i < h.length
  ·rw [List.getElem?_append_left hi] at q
   obtain ⟨a,ea,ra⟩:=R.obj i v q
   refine ⟨a,get_app ea,?_⟩
   cases ra with
   |lst h t=>exact .lst h t.adopt
   |dT h t=>exact .dT h t.adopt
   |dK h t=>exact .dK h t.adopt
   |ins n h t=>exact .ins n h t.adopt
  ·have hi':i=h.length:=by
    have:=(List.getElem?_eq_some_iff.mp q).1
    rw [List.length_append,List.length_singleton] at this;omega
   subst hi'
   rw [List.getElem?_append_right (Nat.le_refl _)] at q
   simp at q;subst q
   exact ⟨p,by rw [List.getElem?_append_right (by rw [R.len];exact Nat.le_refl _),R.len];simp,r⟩
theorem Ext.adopt{α α':List Addr}{H H':Hp}{p:Addr}(e:Ext α H α' H')(hp:H p=none):Ext α H (α' ++ [p]) H':=by
 refine ⟨?_,e.keep,e.dom⟩
 obtain ⟨⟨β,rfl,hb⟩,_⟩:=e
 exact ⟨β ++ [p],by simp,fun q hq=>by
  rcases List.mem_append.mp hq with z | z
  ·exact hb q z
  ·rw [List.mem_singleton.mp z];exact hp⟩
section
variable (X:Cx)
noncomputable def SE(e:Expr)(f:DE):Prop:=PE X e (LE X.K f)
noncomputable def ST(e:Expr)(f:DT):Prop:=PT X e (LT X.K f)
noncomputable def SW(e:Expr)(f:DT):Prop:=PW X e (LT X.K f)
noncomputable def SA(es:List Expr)(n:Nat)(f:DA):Prop:=PA X es (LA X.K n f)
noncomputable def SS(s:Stmt)(f:DS):Prop:=PS X s (LS X.K X.ex9 f)
noncomputable def SSs(ss:List Stmt)(f:DS):Prop:=PSs X ss (LS X.K X.ex9 f)
noncomputable def SG(t:Expr)(f:DG):Prop:=PG X t (LG X.K f)
noncomputable def SGs(ts:List Expr)(f:DGs):Prop:=PGs X ts (LGs X.K f)
end
section
variable {X:Cx}
theorem PE.imp{e:Expr}{t t':TE}(h:PE X e t)(k:∀ σ H Q,t' σ H Q→t σ H Q):PE X e t':=fun pins s σ H Q I q=>h pins s σ H Q I (k σ H Q q)
theorem PT.imp{e:Expr}{t t':TT}(h:PT X e t)(k:∀ σ H Q,t' σ H Q→t σ H Q):PT X e t':=fun pins s σ H Q I q=>h pins s σ H Q I (k σ H Q q)
theorem PW.imp{e:Expr}{t t':TT}(h:PW X e t)(k:∀ σ H Q,t' σ H Q→t σ H Q):PW X e t':=fun wh pins s σ H Q I q=>h wh pins s σ H Q I (k σ H Q q)
theorem PA.imp{es:List Expr}{t t':TA}(h:PA X es t)(k:∀ σ H Q,t' σ H Q→t σ H Q):PA X es t':=fun pos pins s σ H Q I q=>h pos pins s σ H Q I (k σ H Q q)
theorem PS.imp{e:Stmt}{t t':TS}(h:PS X e t)(k:∀ F σ H,t' F σ H→t F σ H):PS X e t':=fun pins s σ H F I q=>h pins s σ H F I (k F σ H q)
theorem PSs.imp{e:List Stmt}{t t':TS}(h:PSs X e t)(k:∀ F σ H,t' F σ H→t F σ H):PSs X e t':=fun pins s σ H F I q=>h pins s σ H F I (k F σ H q)
theorem PG.imp{e:Expr}{t t':TG}(h:PG X e t)(k:∀ v σ H Q,t' v σ H Q→t v σ H Q):PG X e t':=fun pins s σ H v u Q I r q=>h pins s σ H v u Q I r (k v σ H Q q)
theorem PGs.imp{e:List Expr}{t t':TGs}(h:PGs X e t)(k:∀ v σ H Q,t' v σ H Q→t v σ H Q):PGs X e t':=fun pins s σ H v u Q I r q=>h pins s σ H v u Q I r (k v σ H Q q)
end
end DL
namespace DL
open PySem PySem.Spec L2
noncomputable def dVar(i:Nat):DE:=fun δ h Q=>match δ[i]? with | some (some d)=>Q d h | _=>False
noncomputable def dC(d:D):DE:=fun _ h Q=>Q d h
noncomputable abbrev P1:=D→Hh→DK→Prop
noncomputable abbrev P2:=D→D→Hh→DK→Prop
noncomputable abbrev PN:=List D→Hh→DK→Prop
noncomputable def dUn(p:P1)(a:DE):DE:=fun δ h Q=>a δ h fun x h1=>p x h1 Q
noncomputable def dOp(p:P2)(a b:DE):DE:=fun δ h Q=>a δ h fun x h1=>b δ h1 fun y h2=>p x y h2 Q
inductive r1(K:PySem.W.Frag)(p:P1)(x:V)(H:Hp)(Q:VK):Prop
 |mk (π:List Addr) (α:List Addr) (h:Hh) (d:D) (Q':DK):HRel ⟨K,π⟩ α H h→RelD ⟨K,π⟩ α H d x→p d h Q'→(∀ d h' α' H' v,Q' d h'→Ext α H α' H'→HRel ⟨K,π⟩ α' H' h'→RelD ⟨K,π⟩ α' H' d v→Q v H')→r1 K p x H Q
inductive r2(K:PySem.W.Frag)(p:P2)(x y:V)(H:Hp)(Q:VK):Prop
 |mk (π:List Addr) (α:List Addr) (h:Hh) (d e:D) (Q':DK):HRel ⟨K,π⟩ α H h→RelD ⟨K,π⟩ α H d x→RelD ⟨K,π⟩ α H e y→p d e h Q'→(∀ d h' α' H' v,Q' d h'→Ext α H α' H'→HRel ⟨K,π⟩ α' H' h'→RelD ⟨K,π⟩ α' H' d v→Q v H')→r2 K p x y H Q
inductive rN(K:PySem.W.Frag)(p:PN)(xs:List V)(H:Hp)(Q:VK):Prop
 |mk (π:List Addr) (α:List Addr) (h:Hh) (ds:List D) (Q':DK):HRel ⟨K,π⟩ α H h→RelDs ⟨K,π⟩ α H ds xs→p ds h Q'→(∀ d h' α' H' v,Q' d h'→Ext α H α' H'→HRel ⟨K,π⟩ α' H' h'→RelD ⟨K,π⟩ α' H' d v→Q v H')→rN K p xs H Q
section
variable {K:PySem.W.Frag} {σ:L2.St} {H:Hp} {Q:VK}
theorem un_lift{p:P1}{fa:DE}(g:LE K (dUn p fa) σ H Q):LE K fa σ H fun x H1=>r1 K p x H1 Q:=by
 obtain ⟨π,α,δ,h,Q',R,S,f,k⟩:=g
 exact ⟨π,α,δ,h,_,R,S,f,fun x h1 α1 H1 v1 f1 e1 R1 q1=>⟨π,α1,h1,x,Q',R1,q1,f1,fun d h' α' H' v a b c d'=>k d h' α' H' v a (e1.trans b) c d'⟩⟩
theorem op_lift{p:P2}{fa fb:DE}(g:LE K (dOp p fa fb) σ H Q):LE K fa σ H fun x H1=>LE K fb σ H1 fun y H2=>r2 K p x y H2 Q:=by
 obtain ⟨π,α,δ,h,Q',R,S,f,k⟩:=g
 refine ⟨π,α,δ,h,_,R,S,f,fun x h1 α1 H1 v1 f1 e1 R1 q1=>?_⟩
 refine ⟨π,α1,δ,h1,_,R1,S.mono e1,f1,fun y h2 α2 H2 v2 f2 e2 R2 q2=>?_⟩
 exact ⟨π,α2,h2,x,y,Q',R2,q1.mono e2,q2,f2,fun d h' α' H' v a b c d'=>k d h' α' H' v a (e1.trans (e2.trans b)) c d'⟩
end
theorem OpR.imp{X:Cx}{f:Value→Value→Sem Value}{r r':R2}(h:OpR X f r)(k:∀ x y H Q,r' x y H Q→r x y H Q):OpR X f r':=fun pins s σ H x y v u Q I rx ry q=>h pins s σ H x y v u Q I rx ry (k x y H Q q)
theorem UnR.imp{X:Cx}{f:Value→Sem Value}{r r':V→Hp→VK→Prop}(h:UnR X f r)(k:∀ x H Q,r' x H Q→r x H Q):UnR X f r':=fun pins s σ H x v Q I rx q=>h pins s σ H x v Q I rx (k x H Q q)
theorem IxR.imp{X:Cx}{r r':R2}(h:IxR X r)(k:∀ x y H Q,r' x y H Q→r x y H Q):IxR X r':=fun va sl pins s σ H x y v u Q I rx ry q=>h va sl pins s σ H x y v u Q I rx ry (k x y H Q q)
theorem CallR.imp{X:Cx}{f:Value}{r r':List V→Hp→VK→Prop}(h:CallR X f r)(k:∀ x H Q,r' x H Q→r x H Q):CallR X f r':=fun pins s σ H xs us Q I rx q=>h pins s σ H xs us Q I rx (k xs H Q q)
noncomputable def lsOf(h:Hh):D→Option (List D)
 |.lst xs=>some xs
 |.scr xs=>some xs
 |.ref i=>match h[i]? with | some (.lst xs)=>some xs | _=>none
 |_=>none
section
variable {K:KP} {α:List Addr} {H:Hp} {h:Hh}
theorem lsOf_sq(R:HRel K α H h):∀ {d:D} {v:V} {xs:List D},RelD K α H d v→lsOf h d=some xs→∃ p us,v = .ref p∧SqL K.K H p us∧RelDs K α H xs us
 |_,_,_,.lst t r,e=>by cases e;exact ⟨_,_,rfl,t.sq,r⟩
 |_,_,_,.scr t r,e=>by cases e;exact ⟨_,_,rfl,t.sq,r⟩
 |_,_,xs,.ref (i:=i) hp,e=>by
  have e:(match h[i]? with | some (.lst xs)=>some xs | _=>none)=some xs:=e
  cases q:h[i]? with
  |none=>rw [q] at e;cases e
  |some o =>
   rw [q] at e
   cases o with
   |lst ys =>
    cases e
    obtain ⟨p,us,e1,e2,e3⟩:=R.lst q
    rw [hp] at e1;cases e1
    exact ⟨_,us,rfl,SqL.of e2,e3⟩
   |_=>cases e
 |_,_,_,.non,e=>nomatch e
 |_,_,_,.bl _,e=>nomatch e
 |_,_,_,.int _,e=>nomatch e
 |_,_,_,.str _,e=>nomatch e
 |_,_,_,.tup _ _,e=>nomatch e
theorem tup_sq{d:List D}{v:V}(r:RelD K α H (.tup d) v):∃ p us,v = .ref p∧SqT K.K H p us∧RelDs K α H d us:=by
 cases r with
 |tup t r=>exact ⟨_,_,rfl,t.sq,r⟩
end
section
variable {X:Cx} {a b c e:Expr} {fa fb fc:DE} {pos:Pos}
theorem sv(i:Nat){x:Str}{pos:Pos}(hN:X.N[i]?=some x:=by rfl)(hv:Vis X.env.scope x:=by trivial)(hd:(x == ("__debug__":Str))=false:=by decide)
  (hcd:(x == ("__classdict__":Str))=false:=by decide):SE X (.Name x pos) (dVar i):=PE.imp (pe_var hN hv hd hcd) fun σ H Q ⟨π,α,δ,h,Q',R,S,f,k⟩=>by
 unfold dVar at f
 split at f
 ·rename_i d e
  obtain ⟨v,h1,h2⟩:=S.get i d e
  exact ⟨v,h1,k d h α H v f (Ext.refl ..) R h2⟩
 ·exact f.elim
theorem sc_lift{v:V}{d:D}(r:∀ π α H,RelD ⟨X.K,π⟩ α H d v)(h:PE X e (tC v)):SE X e (dC d):=PE.imp h fun σ H Q ⟨π,α,δ,h,Q',R,S,f,k⟩=>k d h α H v f (Ext.refl ..) R (r π α H)
theorem se_int{i j pos}:SE X (.Constant (.int i) j pos) (dC (.int i)):=sc_lift (fun _ _ _=>.int i) pe_int
theorem se_bl{i j pos}:SE X (.Constant (.bool i) j pos) (dC (.bl i)):=sc_lift (fun _ _ _=>.bl i) pe_bl
theorem se_non{j pos}:SE X (.Constant .none j pos) (dC .non):=sc_lift (fun _ _ _=>.non) pe_non
theorem se_str{i j pos}:SE X (.Constant (.str i) j pos) (dC (.str i)):=sc_lift (fun _ _ _=>.str i) pe_str
theorem se_op{op:Operator}{p:P2}(ho:OpR X (binaryOp op) (r2 X.K p))(ha:SE X a fa)(hb:SE X b fb):SE X (.BinOp a op b pos) (dOp p fa fb):=PE.imp (pe_op ho ha hb) fun _ _ _ g=>op_lift g
theorem se_un{op:UnaryOp}{p:P1}(ho:UnR X (unaryOp op) (r1 X.K p))(ha:SE X a fa):SE X (.UnaryOp op a pos) (dUn p fa):=PE.imp (pe_un ho ha) fun _ _ _ g=>un_lift g
theorem se_ix{p:P2}(ho:IxR X (r2 X.K p))(ha:SE X a fa)(hb:SE X b fb)(hs:PlainIx b):SE X (.Subscript a b pos) (dOp p fa fb):=PE.imp (pe_ix ho ha hb hs) fun _ _ _ g=>op_lift g
theorem se_cmp{op:CmpOp}{p:P2}(ho:OpR X (compareOp op) (r2 X.K p))(ha:SE X a fa)(hb:SE X b fb)(hm:behindInMarks op b=false):SE X (.Compare a [op] [b] pos) (dOp p fa fb):=PE.imp (pe_cmpR ho ha hb hm) fun _ _ _ g=>op_lift g
noncomputable def dTst(f:DE):DT:=fun δ h Q=>f δ h fun d h'=>match d with | .bl b=>Q b h' | _=>False
theorem tst_lift{K:PySem.W.Frag}{f:DE}{σ:L2.St}{H:Hp}{Q:Bool→Hp→Prop}(g:LT K (dTst f) σ H Q):LE K f σ H fun x H'=>∃ k,x = .bl k∧Q k H':=by
 obtain ⟨π,α,δ,h,Q',R,S,f,k⟩:=g
 refine ⟨π,α,δ,h,_,R,S,f,fun d h1 α1 H1 v1 f1 e1 R1 q1=>?_⟩
 cases q1 with
 |bl b=>exact ⟨b,rfl,k b h1 α1 H1 f1 e1 R1⟩
 |_=>exact f1.elim
theorem st_cmp{op:CmpOp}{p:P2}(ho:OpR X (compareOp op) (r2 X.K p))(ha:SE X a fa)(hb:SE X b fb)(hm:behindInMarks op b=false):ST X (.Compare a [op] [b] pos) (dTst (dOp p fa fb)):=PT.imp (pt_cmpR ho ha hb hm) fun _ _ _ g=>by
 obtain ⟨π,α,δ,h,Q',R,S,f,k⟩:=tst_lift g
 exact op_lift (Q:=fun x H'=>∃ k,x = .bl k∧_) ⟨π,α,δ,h,Q',R,S,f,k⟩
noncomputable def dChain(p q:P2)(a b c:DE):DE:=fun δ h Q=>a δ h fun x h1=>b δ h1 fun y h2=>p x y h2 fun z h3=>match z with
 |.bl k=>if k=true then c δ h3 fun w h4=>q y w h4 Q else Q (.bl false) h3
 |_=>False
theorem chain_lift{K:PySem.W.Frag}{p q:P2}{σ:L2.St}{H:Hp}{Q:VK}(g:LE K (dChain p q fa fb fc) σ H Q):tChain (r2 K p) (r2 K q) (LE K fa) (LE K fb) (LE K fc) σ H Q:=by
 obtain ⟨π,α,δ,h,Q',R,S,f,k⟩:=g
 refine ⟨π,α,δ,h,_,R,S,f,fun x h1 α1 H1 v1 f1 e1 R1 q1=>?_⟩
 refine ⟨π,α1,δ,h1,_,R1,S.mono e1,f1,fun y h2 α2 H2 v2 f2 e2 R2 q2=>?_⟩
 refine ⟨π,α2,h2,x,y,_,R2,q1.mono e2,q2,f2,fun z h3 α3 H3 v3 f3 e3 R3 q3=>?_⟩
 cases q3 with
 |bl b =>
  refine ⟨b,rfl,?_⟩
  cases b with
  |false=>exact iteF (k _ _ _ _ _ (by simpa using f3) (e1.trans (e2.trans e3)) R3 (.bl false))
  |true =>
   have f3:fc δ h3 fun w h4=>q y w h4 Q':=by simpa using f3
   refine iteT ⟨π,α3,δ,h3,_,R3,S.mono (e1.trans (e2.trans e3)),f3,fun w h4 α4 H4 v4 f4 e4 R4 q4=>?_⟩
   exact ⟨π,α4,h4,y,w,Q',R4,q2.mono (e3.trans e4),q4,f4,fun d h' α' H' v a b c d'=>k d h' α' H' v a (e1.trans (e2.trans (e3.trans (e4.trans b)))) c d'⟩
 |_=>exact f3.elim
theorem se_chain{op op':CmpOp}{p q:P2}(ho:OpR X (compareOp op) (r2 X.K p))(ho':OpR X (compareOp op') (r2 X.K q))(ha:SE X a fa)(hb:SE X b fb)(hc:SE X c fc)
  (hm:lastMarks [op,op'] [b,c]=false:=by with_unfolding_all rfl):SE X (.Compare a [op,op'] [b,c] pos) (dChain p q fa fb fc):=PE.imp (pe_chain ho ho' ha hb hc hm) fun _ _ _ g=>chain_lift g
theorem st_chain{op op':CmpOp}{p q:P2}(ho:OpR X (compareOp op) (r2 X.K p))(ho':OpR X (compareOp op') (r2 X.K q))(ha:SE X a fa)(hb:SE X b fb)(hc:SE X c fc)
  (hm:lastMarks [op,op'] [b,c]=false:=by with_unfolding_all rfl):ST X (.Compare a [op,op'] [b,c] pos) (dTst (dChain p q fa fb fc)):=PT.imp (pt_chain ho ho' ha hb hc hm) fun _ _ _ g=>by
 obtain ⟨π,α,δ,h,Q',R,S,f,k⟩:=tst_lift g
 exact chain_lift (Q:=fun x H'=>∃ k,x = .bl k∧_) ⟨π,α,δ,h,Q',R,S,f,k⟩
noncomputable def trD(h:Hh):D→Option Bool
 |.non=>some false
 |.bl b=>some b
 |.int i=>some (i != 0)
 |.str x=>if x.length ≤ 16777216 then some ((x.length:Int) != 0) else none
 |.tup xs=>some (!xs.isEmpty)
 |.lst xs=>some (!xs.isEmpty)
 |.scr xs=>some (!xs.isEmpty)
 |.ref i=>match h[i]? with | some (.lst xs)=>some (!xs.isEmpty) | _=>none
 |.exc _ _=>none
noncomputable def dTr(f:DE):DT:=fun δ h Q=>f δ h fun d h'=>match trD h' d with | some b=>Q b h' | none=>False
theorem isEmpty_rel{K:KP}{α:List Addr}{H:Hp}{ds:List D}{us:List V}(r:RelDs K α H ds us):ds.isEmpty=us.isEmpty:=by cases r <;> rfl
theorem tr_ok{K:KP}{α:List Addr}{H:Hp}{h:Hh}(R:HRel K α H h){d:D}{v:V}{k:Bool}(r:RelD K α H d v)(e:trD h d=some k):TruV K.K v H k:=by
 cases r with
 |non=>cases e;exact rfl
 |bl b=>cases e;exact rfl
 |int i=>cases e;exact rfl
 |str x =>
  have e:(if x.length ≤ 16777216 then some ((x.length:Int) != 0) else none)=some k:=e
  split at e
  ·rename_i hl
   cases e
   exact ⟨by rw [sizeLine_eq];exact hl,rfl⟩
  ·cases e
 |tup t r=>cases e;exact .inr (.inl ⟨_,t.sq,by rw [isEmpty_rel r]⟩)
 |lst t r=>cases e;exact .inl ⟨_,t.sq,by rw [isEmpty_rel r]⟩
 |scr t r=>cases e;exact .inl ⟨_,t.sq,by rw [isEmpty_rel r]⟩
 |exc _ _ _=>cases e
 |@ref i a hp =>
  have e:(match h[i]? with | some (.lst xs)=>some (!xs.isEmpty) | _=>none)=some k:=e
  cases q:h[i]? with
  |none=>rw [q] at e;cases e
  |some o =>
   rw [q] at e
   cases o with
   |lst ys =>
    cases e
    obtain ⟨p,us,e1,e2,e3⟩:=R.lst q
    rw [hp] at e1;cases e1
    exact .inl ⟨us,SqL.of e2,by rw [isEmpty_rel e3]⟩
   |_=>cases e
theorem st_truth(ha:SE X a fa)(he:∀ whole,isTrue a X.env whole=(do let v ← whole;standAt a.pos;holding [v] (truthy v)):=by intro _;rfl):ST X a (dTr fa):=PT.imp (pt_truth ha he) fun σ H Q zz0=>by
 obtain ⟨π,α,δ,h,Q',R,S,f,k⟩:=zz0
 refine ⟨π,α,δ,h,_,R,S,f,fun d h1 α1 H1 v1 f1 e1 R1 q1=>?_⟩
 cases q:trD h1 d with
 |none=>rw [q] at f1;exact f1.elim
 |some b=>rw [q] at f1;exact ⟨b,tr_ok R1 q1 q,k b h1 α1 H1 f1 e1 R1⟩
noncomputable def dAnd(t u:DT):DT:=fun δ h Q=>t δ h fun c h1=>if c=true then u δ h1 Q else Q false h1
noncomputable def dOr(t u:DT):DT:=fun δ h Q=>t δ h fun c h1=>if c=true then Q true h1 else u δ h1 Q
noncomputable def dNot(t:DT):DT:=fun δ h Q=>t δ h fun c h1=>Q (!c) h1
variable {ga gb:DT} {rest:List Expr}
theorem sw_and1(ha:ST X a ga):SW X (.BoolOp .And [a] pos) ga:=pw_and1 ha
theorem sw_or1(ha:ST X a ga):SW X (.BoolOp .Or [a] pos) ga:=pw_or1 ha
theorem sw_and(ha:ST X a ga)(hb:SW X (.BoolOp .And (b :: rest) pos) gb):SW X (.BoolOp .And (a :: b :: rest) pos) (dAnd ga gb):=PW.imp (pw_and ha hb) fun σ H Q zz0=>by
 obtain ⟨π,α,δ,h,Q',R,S,f,k⟩:=zz0
 refine ⟨π,α,δ,h,_,R,S,f,fun c h1 α1 H1 f1 e1 R1=>?_⟩
 cases c with
 |true=>exact iteT ⟨π,α1,δ,h1,Q',R1,S.mono e1,by simpa using f1,fun b h' α' H' a e c=>k b h' α' H' a (e1.trans e) c⟩
 |false=>exact iteF (k false h1 α1 H1 (by simpa using f1) e1 R1)
theorem sw_or(ha:ST X a ga)(hb:SW X (.BoolOp .Or (b :: rest) pos) gb):SW X (.BoolOp .Or (a :: b :: rest) pos) (dOr ga gb):=PW.imp (pw_or ha hb) fun σ H Q zz0=>by
 obtain ⟨π,α,δ,h,Q',R,S,f,k⟩:=zz0
 refine ⟨π,α,δ,h,_,R,S,f,fun c h1 α1 H1 f1 e1 R1=>?_⟩
 cases c with
 |true=>exact iteT (k true h1 α1 H1 (by simpa using f1) e1 R1)
 |false=>exact iteF ⟨π,α1,δ,h1,Q',R1,S.mono e1,by simpa using f1,fun b h' α' H' a e c=>k b h' α' H' a (e1.trans e) c⟩
theorem st_w(h:SW X e ga):ST X e ga:=PW.pt h
theorem st_not(ha:ST X a ga):ST X (.UnaryOp .Not a pos) (dNot ga):=PT.imp (pt_not ha) fun σ H Q ⟨π,α,δ,h,Q',R,S,f,k⟩=>⟨π,α,δ,h,_,R,S,f,fun c h1 α1 H1 f1 e1 R1=>k (!c) h1 α1 H1 f1 e1 R1⟩
noncomputable def dAndV(a b:DE):DE:=fun δ h Q=>a δ h fun x h1=>match x with | .bl k=>if k=true then b δ h1 Q else Q (.bl false) h1 | _=>False
noncomputable def dOrV(a b:DE):DE:=fun δ h Q=>a δ h fun x h1=>match x with | .bl k=>if k=true then Q (.bl true) h1 else b δ h1 Q | _=>False
noncomputable def dNotV(a:DE):DE:=fun δ h Q=>a δ h fun x h1=>match x with | .bl b=>Q (.bl (!b)) h1 | _=>False
theorem se_one{op}(h:SE X a fa):SE X (.BoolOp op [a] pos) fa:=pe_one h
theorem se_and(ha:SE X a fa)(hb:SE X (.BoolOp .And (b :: rest) pos) fb):SE X (.BoolOp .And (a :: b :: rest) pos) (dAndV fa fb):=PE.imp (pe_and ha hb) fun σ H Q zz0=>by
 obtain ⟨π,α,δ,h,Q',R,S,f,k⟩:=zz0
 refine ⟨π,α,δ,h,_,R,S,f,fun x h1 α1 H1 v1 f1 e1 R1 q1=>?_⟩
 cases q1 with
 |bl c =>
  refine ⟨c,rfl,?_⟩
  cases c with
  |true=>exact iteT ⟨π,α1,δ,h1,Q',R1,S.mono e1,by simpa using f1,fun d h' α' H' v a e c d'=>k d h' α' H' v a (e1.trans e) c d'⟩
  |false=>exact iteF (k _ h1 α1 H1 _ (by simpa using f1) e1 R1 (.bl false))
 |_=>exact f1.elim
theorem se_or(ha:SE X a fa)(hb:SE X (.BoolOp .Or (b :: rest) pos) fb):SE X (.BoolOp .Or (a :: b :: rest) pos) (dOrV fa fb):=PE.imp (pe_or ha hb) fun σ H Q zz0=>by
 obtain ⟨π,α,δ,h,Q',R,S,f,k⟩:=zz0
 refine ⟨π,α,δ,h,_,R,S,f,fun x h1 α1 H1 v1 f1 e1 R1 q1=>?_⟩
 cases q1 with
 |bl c =>
  refine ⟨c,rfl,?_⟩
  cases c with
  |true=>exact iteT (k _ h1 α1 H1 _ (by simpa using f1) e1 R1 (.bl true))
  |false=>exact iteF ⟨π,α1,δ,h1,Q',R1,S.mono e1,by simpa using f1,fun d h' α' H' v a e c d'=>k d h' α' H' v a (e1.trans e) c d'⟩
 |_=>exact f1.elim
noncomputable def dIf(t:DT)(a b:DE):DE:=fun δ h Q=>t δ h fun c h1=>if c=true then a δ h1 Q else b δ h1 Q
theorem se_if(hc:ST X c ga)(ha:SE X a fa)(hb:SE X b fb):SE X (.IfExp c a b pos) (dIf ga fa fb):=PE.imp (pe_ifExp hc ha hb) fun σ H Q zz0=>by
 obtain ⟨π,α,δ,h,Q',R,S,f,k⟩:=zz0
 refine ⟨π,α,δ,h,_,R,S,f,fun c h1 α1 H1 f1 e1 R1=>?_⟩
 cases c with
 |true=>exact iteT ⟨π,α1,δ,h1,Q',R1,S.mono e1,by simpa using f1,fun d h' α' H' v a e c d'=>k d h' α' H' v a (e1.trans e) c d'⟩
 |false=>exact iteF ⟨π,α1,δ,h1,Q',R1,S.mono e1,by simpa using f1,fun d h' α' H' v a e c d'=>k d h' α' H' v a (e1.trans e) c d'⟩
noncomputable def dNil:DA:=fun _ h Q=>Q [] h
noncomputable def dCons(a:DE)(r:DA):DA:=fun δ h Q=>a δ h fun x h1=>r δ h1 fun xs h2=>Q (x :: xs) h2
variable {es:List Expr} {n:Nat} {fs:DA}
theorem sa_nil:SA X [] 0 dNil:=PA.imp pa_nil fun σ H Q ⟨π,α,δ,h,Q',R,S,f,k⟩=>k [] h α H [] f (Ext.refl ..) R .nil rfl
theorem sa_cons(ha:SE X e fa)(hr:SA X es n fs)(hs:starEach (e :: es) X.env=(false,eval e X.env) :: starEach es X.env:=by rfl):SA X (e :: es) (n + 1) (dCons fa fs):=PA.imp (pa_cons ha hr hs) fun σ H Q zz0=>by
 obtain ⟨π,α,δ,h,Q',R,S,f,k⟩:=zz0
 refine ⟨π,α,δ,h,_,R,S,f,fun x h1 α1 H1 v1 f1 e1 R1 q1=>?_⟩
 refine ⟨π,α1,δ,h1,_,R1,S.mono e1,f1,fun ds h2 α2 H2 vs f2 e2 R2 q2 l2=>?_⟩
 exact k (x :: ds) h2 α2 H2 (v1 :: vs) f2 (e1.trans e2) R2 (.cons (q1.mono e2) q2) (by rw [List.length_cons,l2])
noncomputable def dTup(f:DA):DE:=fun δ h Q=>f δ h fun ds h1=>Q (.tup ds) h1
theorem se_tup{x1}(hf:SA X es n fs)(hn:n ≤ sizeLine:=by decide):SE X (.Tuple es x1 pos) (dTup fs):=PE.imp (pe_tup hf) fun σ H Q zz0=>by
 obtain ⟨π,α,δ,h,Q',R,S,f,k⟩:=zz0
 refine ⟨π,α,δ,h,_,R,S,f,fun ds h1 α1 H1 vs f1 e1 R1 q1 l1=>⟨by rw [← q1.length,l1];exact hn,fun p hp=>?_⟩⟩
 have e2:Ext α1 H1 α1 (upd H1 p (.tup vs)):=Ext.new hp
 exact k (.tup ds) h1 α1 _ _ f1 (e1.trans e2) (R1.new hp) (.tup ⟨R1.out hp,R1.outP hp,upd_same⟩ (q1.mono e2))
noncomputable abbrev DN:=Sl→Hh→(List D→Hh→Prop)→Prop
inductive LN(K:PySem.W.Frag)(f:DN)(σ:St)(H:Hp)(Q:VK):Prop
 |mk (π:List Addr) (α:List Addr) (δ:Sl) (h:Hh) (Q':List D→Hh→Prop):HRel ⟨K,π⟩ α H h→RelS ⟨K,π⟩ α H δ σ→f δ h Q'→(∀ ds h' α' H' us p,Q' ds h'→Ext α H α' H'→HRel ⟨K,p :: π⟩ α' H' h'→RelDs ⟨K,p :: π⟩ α' H' ds us→H' p=some (.lst us)→H p=none→p ∉ π→Q (.ref p) H')→LN K f σ H Q
theorem LN.last{K:PySem.W.Frag}{π α α':List Addr}{H H':Hp}{h h':Hh}{Q:VK}{Q':List D→Hh→Prop}(k:∀ ds h' α' H' us p,Q' ds h'→Ext α H α' H'→HRel ⟨K,p :: π⟩ α' H' h'→RelDs ⟨K,p :: π⟩ α' H' ds us→H' p=some (.lst us)→H p=none→p ∉ π→Q (.ref p) H')
  {ds:List D} {us:List V} {p:Addr} (f:Q' ds h') (e:Ext α H α' H') (R:HRel ⟨K,π⟩ α' H' h') (r:RelDs ⟨K,π⟩ α' H' ds us) (hp:H' p=none):Q (.ref p) (upd H' p (.lst us)):=by
 have e2:Ext α' H' α' (upd H' p (.lst us)):=Ext.new hp
 refine k ds h' α' _ us p f (e.trans e2) (R.under hp) ((r.more fun q hq=>?_).mono e2) upd_same (e.dom p hp) (R.outP hp)
 rcases List.mem_cons.mp hq with rfl | z
 ·exact .inr hp
 ·exact .inl z
noncomputable def SN(X:Cx)(e:Expr)(f:DN):Prop:=PE X e (LN X.K f)
noncomputable def dV(f:DN):DE:=fun δ h Q=>f δ h fun ds h'=>Q (.lst ds) h'
noncomputable def dTk(f:DN):DE:=fun δ h Q=>f δ h fun ds h'=>Q (.ref h'.length) (h' ++ [.lst ds])
variable {fn:DN}
theorem se_v(hf:SN X e fn):SE X e (dV fn):=PE.imp hf fun σ H Q zz0=>by
 obtain ⟨π,α,δ,h,Q',R,S,f,k⟩:=zz0
 refine ⟨π,α,δ,h,_,R,S,f,fun ds h1 α1 H1 us p f1 e1 R1 q1 hus hp np=>?_⟩
 exact k (.lst ds) h1 α1 _ _ f1 e1 R1.less (.lst ⟨(R1.dis p List.mem_cons_self).1,np,hus⟩ (q1.more fun q hq=>.inl (List.mem_cons_of_mem _ hq)))
theorem se_t(hf:SN X e fn):SE X e (dTk fn):=PE.imp hf fun σ H Q zz0=>by
 obtain ⟨π,α,δ,h,Q',R,S,f,k⟩:=zz0
 refine ⟨π,α,δ,h,_,R,S,f,fun ds h1 α1 H1 us p f1 e1 R1 q1 hus hp np=>?_⟩
 refine k (.ref h1.length) (h1 ++ [.lst ds]) (α1 ++ [p]) _ _ f1 (e1.adopt hp) (R1.adopt np (.lst hus q1.adopt)) (.ref ?_)
 rw [← R1.len];simp
theorem sn_lst(hf:SA X es n fs)(hn:n ≤ sizeLine:=by decide):SN X (.List es pos) fs:=PE.imp (pe_lst hf) fun σ H Q zz0=>by
 obtain ⟨π,α,δ,h,Q',R,S,f,k⟩:=zz0
 refine ⟨π,α,δ,h,_,R,S,f,fun ds h1 α1 H1 vs f1 e1 R1 q1 l1=>⟨by rw [← q1.length,l1];exact hn,fun p hp=>?_⟩⟩
 exact LN.last (h:=h) k f1 e1 R1 q1 hp
end
end DL
namespace DL
open PySem PySem.Spec L2
section
variable {X:Cx}
noncomputable def pI(C:Int→Int→Prop)(g:Int→Int→Int):P2:=fun x y h Q=>match x,y with | .int i,.int j=>C i j∧Q (.int (g i j)) h | _,_=>False
noncomputable def pI0(g:Int→Int→Int):P2:=fun x y h Q=>match x,y with | .int i,.int j=>Q (.int (g i j)) h | _,_=>False
noncomputable def pB0(g:Int→Int→Bool):P2:=fun x y h Q=>match x,y with | .int i,.int j=>Q (.bl (g i j)) h | _,_=>False
theorem pI_ok{f:Value→Value→Sem Value}{C:Int→Int→Prop}{g:Int→Int→Int}(h:OpR X f (rI C fun i j=>.int (g i j))):OpR X f (r2 X.K (pI C g)):=OpR.imp h fun x y H Q zz0=>by
 obtain ⟨π,α,h,d,e,Q',R,r1,r2,f,k⟩:=zz0
 cases r1 with
 |int i =>
  cases r2 with
  |int j=>exact ⟨i,j,rfl,rfl,f.1,k _ h α H _ f.2 (Ext.refl ..) R (.int _)⟩
  |_=>exact f.elim
 |_=>exact f.elim
theorem pI0_ok{f:Value→Value→Sem Value}{g:Int→Int→Int}(h:OpR X f (rI0 fun i j=>.int (g i j))):OpR X f (r2 X.K (pI0 g)):=OpR.imp h fun x y H Q zz0=>by
 obtain ⟨π,α,h,d,e,Q',R,r1,r2,f,k⟩:=zz0
 cases r1 with
 |int i =>
  cases r2 with
  |int j=>exact ⟨i,j,rfl,rfl,k _ h α H _ f (Ext.refl ..) R (.int _)⟩
  |_=>exact f.elim
 |_=>exact f.elim
theorem pB0_ok{f:Value→Value→Sem Value}{g:Int→Int→Bool}(h:OpR X f (rI0 fun i j=>.bl (g i j))):OpR X f (r2 X.K (pB0 g)):=OpR.imp h fun x y H Q zz0=>by
 obtain ⟨π,α,h,d,e,Q',R,r1,r2,f,k⟩:=zz0
 cases r1 with
 |int i =>
  cases r2 with
  |int j=>exact ⟨i,j,rfl,rfl,k _ h α H _ f (Ext.refl ..) R (.bl _)⟩
  |_=>exact f.elim
 |_=>exact f.elim
noncomputable abbrev pSub:P2:=pI0 fun i j=>i - j
noncomputable abbrev pDiv:P2:=pI (fun _ j=>0 < j∧j < 2 ^ 100) fun i j=>i / j
noncomputable abbrev pMod:P2:=pI (fun _ j=>0 < j) fun i j=>i % j
noncomputable abbrev pPow:P2:=pI CPow fun i j=>i ^ j.toNat
noncomputable abbrev pShl:P2:=pI CPow fun i j=>i * 2 ^ j.toNat
noncomputable abbrev pShr:P2:=pI (fun _ j=>0 ≤ j) fun i j=>i / 2 ^ j.toNat
noncomputable abbrev pBand:P2:=pI0 fun i j=>Builtin.bitAnd i j
noncomputable abbrev pBor:P2:=pI0 fun i j=>Builtin.bitOr i j
noncomputable abbrev pLtI:P2:=pB0 fun i j=>decide (i < j)
noncomputable abbrev pLe:P2:=pB0 fun i j=>decide (i ≤ j)
noncomputable abbrev pGt:P2:=pB0 fun i j=>decide (j < i)
theorem ok_sub:OpR X (binaryOp .Sub) (r2 X.K pSub):=pI0_ok op_sub
theorem op_fdivB:OpR X (binaryOp .FloorDiv) (rI (fun _ j=>0 < j∧j < 2 ^ 100) fun i j=>.int (i / j)):=opI fun i j _ _ _ _ _ hc q=>by
 have e:i.fdiv j=i / j:=Int.fdiv_eq_ediv_of_nonneg i (by omega)
 refine PyProof.Rows.floordiv_int (by omega) (by rw [e];exact q) (.inl (PyProof.noPylong_of_log2 ?_))
 have h1:j.natAbs ≠ 0:=by omega
 rw [Nat.log2_lt h1]
 have h2:j.natAbs < 2 ^ 100:=by
  have:=hc.2
  omega
 exact Nat.lt_of_lt_of_le h2 (Nat.pow_le_pow_right (by decide) (by decide))
theorem ok_div:OpR X (binaryOp .FloorDiv) (r2 X.K pDiv):=pI_ok op_fdivB
theorem ok_mod:OpR X (binaryOp .Mod) (r2 X.K pMod):=pI_ok op_mod
theorem ok_pow:OpR X (binaryOp .Pow) (r2 X.K pPow):=pI_ok op_pow
theorem ok_shl:OpR X (binaryOp .LShift) (r2 X.K pShl):=pI_ok op_shl
theorem ok_shr:OpR X (binaryOp .RShift) (r2 X.K pShr):=pI_ok op_shr
theorem ok_band:OpR X (binaryOp .BitAnd) (r2 X.K pBand):=pI0_ok op_and
theorem ok_bor:OpR X (binaryOp .BitOr) (r2 X.K pBor):=pI0_ok op_or
theorem ok_le:OpR X (compareOp .LtE) (r2 X.K pLe):=pB0_ok op_le
theorem ok_gt:OpR X (compareOp .Gt) (r2 X.K pGt):=pB0_ok op_gt
theorem ok_ltI:OpR X (compareOp .Lt) (r2 X.K pLtI):=pB0_ok op_lt
noncomputable def pAdd:P2:=fun x y h Q=>match x,y with
 |.int i,.int j=>Q (.int (i + j)) h
 |.str a,.str b=>a.length + b.length ≤ 16777216∧Q (.str (a ++ b)) h
 |.tup a,.tup b=>a ≠ []∧a.length + b.length ≤ 16777216∧Q (.tup (a ++ b)) h
 |_,_=>False
theorem ok_add:OpR X (binaryOp .Add) (r2 X.K pAdd):=OpR.imp (op_add.or (op_add_str.or op_catT)) fun x y H Q zz0=>by
 obtain ⟨π,α,h,d,e,Q',R,r1,r2,f,k⟩:=zz0
 cases r1 with
 |int i =>
  cases r2 with
  |int j=>exact .inl ⟨i,j,rfl,rfl,k _ h α H _ f (Ext.refl ..) R (.int _)⟩
  |_=>exact f.elim
 |str i =>
  cases r2 with
  |str j=>exact .inr (.inl ⟨i,j,rfl,rfl,by rw [sizeLine_eq];exact f.1,k _ h α H _ f.2 (Ext.refl ..) R (.str _)⟩)
  |_=>exact f.elim
 |@tup a us ds t r =>
  cases r2 with
  |@tup a' us' ds' t' r' =>
   obtain ⟨f1,f2,f3⟩:=f
   have l1:=r.length
   have l2:=r'.length
   refine .inr (.inr ⟨a,a',us,us',rfl,rfl,t.sq,t'.sq,?_,by rw [sizeLine_eq,← l1,← l2];exact f2,fun z=>?_,fun z p hp=>?_⟩)
   ·intro z
    subst z
    cases r;exact f1 rfl
   ·subst z
    cases r'
    rw [List.append_nil] at f3
    exact k _ h α H _ f3 (Ext.refl ..) R (.tup t r)
   ·have e2:Ext α H α (upd H p (.tup (us ++ us'))):=Ext.new hp
    exact k _ h α _ _ f3 e2 (R.new hp) (.tup ⟨R.out hp,R.outP hp,upd_same⟩ ((r.append r').mono e2))
  |_=>exact f.elim
 |_=>exact f.elim
noncomputable def pNeg:P1:=fun x h Q=>match x with | .int i=>Q (.int (-i)) h | _=>False
theorem ok_neg:UnR X (unaryOp .USub) (r1 X.K pNeg):=UnR.imp un_neg fun x H Q zz0=>by
 obtain ⟨π,α,h,d,Q',R,r1,f,k⟩:=zz0
 cases r1 with
 |int i=>exact ⟨i,rfl,k _ h α H _ f (Ext.refl ..) R (.int _)⟩
 |_=>exact f.elim
noncomputable def isNon:D→Bool | .non=>true | _=>false
noncomputable def pIs(neg:Bool):P2:=fun x y h Q=>match y with | .non=>Q (.bl (if neg then !isNon x else isNon x)) h | _=>False
theorem isNon_rel{K:KP}{α:List Addr}{H:Hp}{d:D}{v:V}(r:RelD K α H d v):decide (v = .non)=isNon d:=by cases r <;> rfl
theorem ok_is:OpR X (compareOp .Is) (r2 X.K (pIs false)):=OpR.imp op_isN fun x y H Q zz0=>by
 obtain ⟨π,α,h,d,e,Q',R,r1,r2,f,k⟩:=zz0
 cases r2 with
 |non =>
  refine ⟨rfl,k _ h α H _ f (Ext.refl ..) R ?_⟩
  rw [isNon_rel r1];exact .bl _
 |_=>exact f.elim
theorem atI_rel{K:KP}{α:List Addr}{H:Hp}{ds:List D}{us:List V}{i:Int}{d:D}(r:RelDs K α H ds us)(e:atI ds i=some d):∃ u,atI us i=some u∧RelD K α H d u:=by
 unfold atI at e ⊢
 rw [← r.length]
 cases q:ixN ds.length i with
 |none=>rw [q] at e;cases e
 |some j =>
  rw [q] at e
  exact r.get e
noncomputable def seqOf(h:Hh):D→Option (List D)
 |.lst xs=>some xs
 |.scr xs=>some xs
 |.tup xs=>some xs
 |.ref i=>match h[i]? with | some (.lst xs)=>some xs | _=>none
 |_=>none
theorem seqOf_sq{K:KP}{α:List Addr}{H:Hp}{h:Hh}(R:HRel K α H h){d:D}{v:V}{xs:List D}(r:RelD K α H d v)(e:seqOf h d=some xs):∃ p us,v = .ref p∧(SqL K.K H p us∨SqT K.K H p us)∧RelDs K α H xs us:=by
 by_cases z:∃ ys,d = .tup ys
 ·obtain ⟨ys,rfl⟩:=z
  cases e
  obtain ⟨p,us,a,b,c⟩:=tup_sq r
  exact ⟨p,us,a,.inr b,c⟩
 ·have e':lsOf h d=some xs:=by
   cases d with
   |tup ys=>exact absurd ⟨ys,rfl⟩ z
   |lst ys=>exact e
   |scr ys=>exact e
   |ref i=>exact e
   |_=>cases e
  obtain ⟨p,us,a,b,c⟩:=lsOf_sq R r e'
  exact ⟨p,us,a,.inl b,c⟩
noncomputable def strAt(x:Str)(i:Int):Option D:=if x.length ≤ 16777216 then (atI x.cps.toList i).map fun c=>.str ⟨#[c]⟩ else none
noncomputable def ixD(h:Hh)(x y:D):Option D:=match y with
 |.int i=>match x with
  |.tup xs=>atI xs i
  |.lst xs=>atI xs i
  |.scr xs=>atI xs i
  |.ref j=>match h[j]? with | some (.lst xs)=>atI xs i | _=>none
  |.str s=>strAt s i
  |_=>none
 |_=>none
noncomputable def pIx:P2:=fun x y h Q=>match ixD h x y with | some d=>Q d h | none=>False
theorem ok_ix:IxR X (r2 X.K pIx):=IxR.imp ix_seq fun x y H Q zz0=>by
 obtain ⟨π,α,h,d,e,Q',R,r1,r2,f,k⟩:=zz0
 unfold pIx at f
 cases q:ixD h d e with
 |none=>rw [q] at f;exact f.elim
 |some z =>
  rw [q] at f
  cases r2 with
  |int i =>
   cases r1 with
   |@tup a us ds t r =>
    obtain ⟨u,e1,e2⟩:=atI_rel r q
    exact .inr (.inl ⟨_,us,i,u,rfl,rfl,t.sq,e1,k _ h α H _ f (Ext.refl ..) R e2⟩)
   |@lst a us ds t r =>
    obtain ⟨u,e1,e2⟩:=atI_rel r q
    exact .inl ⟨_,us,i,u,rfl,rfl,t.sq,e1,k _ h α H _ f (Ext.refl ..) R e2⟩
   |@scr a us ds t r =>
    obtain ⟨u,e1,e2⟩:=atI_rel r q
    exact .inl ⟨_,us,i,u,rfl,rfl,t.sq,e1,k _ h α H _ f (Ext.refl ..) R e2⟩
   |@ref j a hp =>
    have q:(match h[j]? with | some (.lst xs)=>atI xs i | _=>none)=some z:=q
    cases w:h[j]? with
    |none=>rw [w] at q;cases q
    |some o =>
     rw [w] at q
     cases o with
     |lst ys =>
      obtain ⟨p,us,e1,e2,e3⟩:=R.lst w
      rw [hp] at e1;cases e1
      obtain ⟨u,e4,e5⟩:=atI_rel e3 q
      exact .inl ⟨_,us,i,u,rfl,rfl,SqL.of e2,e4,k _ h α H _ f (Ext.refl ..) R e5⟩
     |_=>cases q
   |str s =>
    have q:strAt s i=some z:=q
    unfold strAt at q
    split at q
    ·rename_i hl
     cases w:atI s.cps.toList i with
     |none=>rw [w] at q;cases q
     |some c =>
      rw [w] at q
      cases q
      exact .inr (.inr ⟨s,i,c,rfl,rfl,by rw [sizeLine_eq];exact hl,w,k _ h α H _ f (Ext.refl ..) R (.str _)⟩)
    ·cases q
   |_=>cases q
  |_=>cases q
end
noncomputable def cutD(xs:List D)(lo hi:Option Int):List D:=(xs.drop (HT.sIx xs.length 0 lo)).take (HT.sIx xs.length xs.length hi - HT.sIx xs.length 0 lo)
theorem cut_rel{K:KP}{α:List Addr}{H:Hp}{ds:List D}{us:List V}(r:RelDs K α H ds us)(lo hi:Option Int):RelDs K α H (cutD ds lo hi) (cutV us lo hi):=by
 unfold cutD cutV
 rw [r.length]
 exact (r.drop _).take _
noncomputable abbrev DO:=Sl→Hh→(Option Int→Hh→Prop)→Prop
noncomputable def dNoPart:DO:=fun _ h Q=>Q none h
noncomputable def dPart(f:DE):DO:=fun δ h Q=>f δ h fun d h1=>match d with | .int i=>Q (some i) h1 | _=>False
inductive LO(K:PySem.W.Frag)(f:DO)(σ:St)(H:Hp)(Q:Option Int→Hp→Prop):Prop
 |mk (π:List Addr) (α:List Addr) (δ:Sl) (h:Hh) (Q':Option Int→Hh→Prop):HRel ⟨K,π⟩ α H h→RelS ⟨K,π⟩ α H δ σ→f δ h Q'→(∀ i h' α' H',Q' i h'→Ext α H α' H'→HRel ⟨K,π⟩ α' H' h'→Q i H')→LO K f σ H Q
noncomputable def SO(X:Cx)(e:Option Expr)(f:DO):Prop:=PO X e (LO X.K f)
section
variable {X:Cx} {e:Expr} {fe:DE} {lo hi:Option Expr} {fl fh:DO} {pos p2:Pos}
theorem PO.imp{o:Option Expr}{t t':TO}(h:PO X o t)(k:∀ σ H Q,t' σ H Q→t σ H Q):PO X o t':=fun pins s σ H Q I q=>h pins s σ H Q I (k σ H Q q)
theorem so_none:SO X none dNoPart:=PO.imp po_none fun σ H Q ⟨π,α,δ,h,Q',R,S,f,k⟩=>k none h α H f (Ext.refl ..) R
theorem so_some(h:SE X e fe):SO X (some e) (dPart fe):=PO.imp (po_some h) fun σ H Q zz0=>by
 obtain ⟨π,α,δ,h,Q',R,S,f,k⟩:=zz0
 refine ⟨π,α,δ,h,_,R,S,f,fun d h1 α1 H1 v1 f1 e1 R1 q1=>?_⟩
 cases q1 with
 |int i=>exact ⟨i,rfl,k (some i) h1 α1 H1 f1 e1 R1⟩
 |_=>exact f1.elim
noncomputable def rSlD(K:PySem.W.Frag):V→Option Int→Option Int→Hp→VK→Prop:=fun x lo hi H Q=>∃ a xs,x = .ref a∧SqT K H a xs∧(cutV xs lo hi=xs→Q (.ref a) H)∧∀ p,H p=none→Q (.ref p) (upd H p (.tup (cutV xs lo hi)))
theorem sl_tupD:SlR X (rSlD X.K):=by
 intro pins s σ H x v vl vu lo hi sl Q I rx hs pl pu h
 obtain ⟨a,xs,rfl,hx,q1,q2⟩:=h
 by_cases hw:HT.sIx xs.length 0 lo=0∧HT.sIx xs.length xs.length hi=xs.length
 ·cases rx
  obtain ⟨its,r,ht,hz⟩:=I.tuple hx
  have hlen:its.toArray.size=xs.length:=by rw [List.size_toArray];exact r.length.symm
  refine ⟨"tuple",_,PyProof.Rows.slot_tuple_getitem.lookup,ht.typeIs,?_⟩
  have ec:cutV xs lo hi=xs:=by
   unfold cutV
   rw [hw.1,hw.2,List.drop_zero,Nat.sub_zero,List.take_length]
  exact HT.getItem_tuple_all ht hs pl pu (by rw [hlen];exact hw) ⟨.ref a,H,I,rfl,q1 ec⟩
 ·exact sl_tup pins s σ H (.ref a) v vl vu lo hi sl Q I rx hs pl pu ⟨a,xs,rfl,hx,hw,fun p hp=>q2 p hp⟩
noncomputable def dSlL(fe:DE)(fl fh:DO):DN:=fun δ h Q=>fe δ h fun d h1=>fl δ h1 fun l h2=>fh δ h2 fun u h3=>match lsOf h3 d with | some xs=>Q (cutD xs l u) h3 | none=>False
end
end DL
namespace DL
open PySem PySem.Spec L2
noncomputable def dName(i:Nat):DG:=fun d δ h Q=>Q (δ.set i (some d)) h
noncomputable def dGNil:DGs:=fun ds δ h Q=>match ds with | []=>Q δ h | _=>False
noncomputable def dGCons(t:DG)(u:DGs):DGs:=fun ds δ h Q=>match ds with | d :: r=>t d δ h fun δ' h'=>u r δ' h' Q | []=>False
noncomputable def dUnp(n:Nat)(t:DGs):DG:=fun d δ h Q=>match d with | .tup xs=>xs.length=n∧t xs δ h Q | _=>False
section
variable {X:Cx} {pos:Pos}
theorem sg_name{i:Nat}{x:Str}(hN:X.N.Nodup)(hi:X.N[i]?=some x)(hx:Loc X.env.scope x)(hf:X.fn x=true∨X.env.scope.names.lookup x=some .local:=by trivial):SG X (.Name x pos) (dName i):=PG.imp (pg_name hN hi hx hf) fun v σ H Q ⟨π,α,δ,h,d,Q',R,S,r,f,k⟩ =>
 k _ h α H _ f (Ext.refl ..) R (S.set i r)
theorem sgs_nil:SGs X [] dGNil:=PGs.imp pgs_nil fun vs σ H Q zz0=>by
 obtain ⟨π,α,δ,h,ds,Q',R,S,r,f,k⟩:=zz0
 cases r with
 |nil=>exact ⟨rfl,k δ h α H σ f (Ext.refl ..) R S⟩
 |cons _ _=>exact f.elim
theorem sgs_cons{e:Expr}{es:List Expr}{t:DG}{u:DGs}(h1:SG X e t)(h2:SGs X es u)(hs:(assignEach (e :: es) X.env).map (·.2)=assign e X.env :: (assignEach es X.env).map (·.2):=by rfl):SGs X (e :: es) (dGCons t u):=PGs.imp (pgs_cons h1 h2 hs) fun vs σ H Q zz0=>by
 obtain ⟨π,α,δ,h,ds,Q',R,S,r,f,k⟩:=zz0
 cases r with
 |nil=>exact f.elim
 |@cons d v ds us rd rs =>
  refine ⟨v,us,rfl,π,α,δ,h,d,_,R,S,rd,f,fun δ1 h1 α1 H1 σ1 f1 e1 R1 S1=>?_⟩
  exact ⟨π,α1,δ1,h1,ds,Q',R1,S1,rs.mono e1,f1,fun δ' h' α' H' σ' a b c d'=>k δ' h' α' H' σ' a (e1.trans b) c d'⟩
theorem sg_tup{es:List Expr}{j:Nat}{t:DGs}{n:Nat}(hc:X.calm=true)(h:SGs X es t)(hn:(assignEach es X.env).length=n:=by rfl)(hst:(assignEach es X.env).findIdx? (·.1)=none:=by rfl):SG X (.Tuple es j pos) (dUnp n t):=PG.imp (pg_tup hc h hn hst) fun v σ H Q zz0=>by
 obtain ⟨π,α,δ,h,d,Q',R,S,r,f,k⟩:=zz0
 cases r with
 |@tup a us ds t rs=>exact ⟨a,us,rfl,t.sq,by rw [← rs.length];exact f.1,π,α,δ,h,ds,Q',R,S,rs,f.2,k⟩
 |_=>exact f.elim
noncomputable def setD(o i v:D)(h:Hh)(Q:Hh→Prop):Prop:=match o,i with
 |.ref j,.int k=>match h[j]? with
  |some (.lst xs)=>match ixN xs.length k with
   |some m=>Q (h.set j (.lst (xs.set m v)))
   |none=>False
  |_=>False
 |_,_=>False
noncomputable def dSubL(fo fi:DE):DG:=fun v δ h Q=>fo δ h fun o h1=>fi δ h1 fun i h2=>setD o i v h2 fun h3=>Q δ h3
theorem set_lift{K:PySem.W.Frag}{π α:List Addr}{H:Hp}{h:Hh}{o i v:D}{ov iv vv:V}{Q':Hh→Prop}{Q:Hp→Prop}(R:HRel ⟨K,π⟩ α H h)(ro:RelD ⟨K,π⟩ α H o ov)(ri:RelD ⟨K,π⟩ α H i iv)(rv:RelD ⟨K,π⟩ α H v vv)(f:setD o i v h Q')
  (k:∀ h' H',Q' h'→Ext α H α H'→HRel ⟨K,π⟩ α H' h'→Q H'):rSetL ov iv vv H Q:=by
 unfold setD at f
 cases ro with
 |@ref j a hp =>
  cases ri with
  |int n =>
   dsimp only at f
   cases w:h[j]? with
   |none=>rw [w] at f;exact f.elim
   |some ob =>
    rw [w] at f
    cases ob with
    |lst xs =>
     dsimp only at f
     obtain ⟨p,us,e1,e2,e3⟩:=R.lst w
     rw [hp] at e1;cases e1
     cases q:ixN xs.length n with
     |none=>rw [q] at f;exact f.elim
     |some m =>
      rw [q] at f
      have e4:Ext α H α (upd H a (.lst (us.set m vv))):=Ext.write (List.mem_of_getElem? hp)
      refine ⟨a,us,n,m,rfl,rfl,e2,by rw [← e3.length];exact q,k _ _ f e4 (R.write hp (.lst upd_same ((RelDs.set rv m e3).mono e4)))⟩
    |_=>exact f.elim
  |_=>exact f.elim
 |_=>exact f.elim
theorem sg_subL{o i:Expr}{fo fi:DE}(ho:SE X o fo)(hi:SE X i fi)
  (ha:∀ v,assign (.Subscript o i pos) X.env v=(do
   let ov ← holding [v] (eval o X.env)
   let iv ← holding [v,ov] (eval i X.env)
   standAt pos
   holding [v,ov,iv] (setItem ov iv v)
   release [v,ov,iv] []):=by intro _;rfl):SG X (.Subscript o i pos) (dSubL fo fi):=PG.imp (pg_sub ho hi set_list ha) fun v σ H Q ⟨π,α,δ,h,d,Q',R,S,r,f,k⟩=>by
 refine ⟨π,α,δ,h,_,R,S,f,fun o h1 α1 H1 v1 f1 e1 R1 q1=>?_⟩
 refine ⟨π,α1,δ,h1,_,R1,S.mono e1,f1,fun i h2 α2 H2 v2 f2 e2 R2 q2=>?_⟩
 exact set_lift R2 (q1.mono e2) q2 (r.mono (e1.trans e2)) f2 fun h3 H3 f3 e3 R3=>k δ h3 α2 H3 σ f3 (e1.trans (e2.trans e3)) R3 (S.mono (e1.trans (e2.trans e3)))
end
noncomputable def dNext:DS:=fun E δ h=>E.nx δ h
noncomputable def dSeq(f g:DS):DS:=fun E δ h=>f { E with nx:=g E } δ h
noncomputable def dNever:DS:=fun _ _ _=>False
noncomputable def dBreak:DS:=fun E δ h=>E.bk δ h
noncomputable def dCont:DS:=fun E δ h=>E.ct δ h
noncomputable def dDrop(f:DE):DS:=fun E δ h=>f δ h fun _ h1=>E.nx δ h1
noncomputable def dRet(f:DE):DS:=fun E δ h=>f δ h E.rt
noncomputable def dRetN:DS:=fun E _ h=>E.rt .non h
noncomputable def dIfS(t:DT)(f g:DS):DS:=fun E δ h=>t δ h fun c h1=>if c=true then f E δ h1 else g E δ h1
noncomputable def dAsg(f:DE)(g:DG):DS:=fun E δ h=>f δ h fun x h1=>g x δ h1 E.nx
noncomputable def dAug(i:Nat)(f:DE)(p:P2):DS:=fun E δ h=>match δ[i]? with | some (some x)=>f δ h fun y h1=>p x y h1 fun z h2=>E.nx (δ.set i (some z)) h2 | _=>False
section
variable {X:Cx} {s:Stmt} {ss:List Stmt} {f g:DS} {e:Expr} {fe:DE} {pos:Pos}
theorem seq_lift{K:PySem.W.Frag}{Ex:XK}{F:Ends}{σ:L2.St}{H:Hp}(w:LS K Ex (dSeq f g) F σ H):tSeq (LS K Ex f) (LS K Ex g) F σ H:=by
 obtain ⟨π,α,δ,h,E,R,S,q,k⟩:=w
 exact ⟨π,α,δ,h,{ E with nx:=g E },R,S,q,⟨fun δ' h' α' H' σ' a b c d=>⟨π,α',δ',h',E,c,d,a,k.mono b⟩,k.rt,k.bk,k.ct,k.ex⟩⟩
theorem ss_nil:SSs X [] dNext:=PSs.imp pss_nil fun F σ H ⟨π,α,δ,h,E,R,S,q,k⟩=>k.nx δ h α H σ q (Ext.refl ..) R S
theorem ss_one(h:SS X s f):SSs X [s] f:=pss_one h
theorem ss_cons(h1:SS X s f)(h2:SSs X ss g):SSs X (s :: ss) (dSeq f g):=PSs.imp (pss_cons h1 h2) fun _ _ _ w=>seq_lift w
theorem s_expr(he:SE X e fe)(hs:swapsWith e none pos.line X.env=pure false:=by rfl):SS X (.Expr e pos) (dDrop fe):=PS.imp (ps_expr he hs) fun F σ H ⟨π,α,δ,h,E,R,S,q,k⟩ =>
 ⟨π,α,δ,h,_,R,S,q,fun d h1 α1 H1 v1 f1 e1 R1 q1=>k.nx δ h1 α1 H1 σ f1 e1 R1 (S.mono e1)⟩
theorem s_ret(he:SE X e fe):SS X (.Return (some e) pos) (dRet fe):=PS.imp (ps_ret he) fun F σ H ⟨π,α,δ,h,E,R,S,q,k⟩=>⟨π,α,δ,h,_,R,S,q,fun d h1 α1 H1 v1 f1 e1 R1 q1=>k.rt d h1 α1 H1 v1 f1 e1 R1 q1⟩
theorem s_if{c:Expr}{a b:List Stmt}{t:DT}(hc:ST X c t)(ha:SSs X a f)(hb:SSs X b g):SS X (.If c a b pos) (dIfS t f g):=PS.imp (ps_if hc ha hb) fun F σ H zz0=>by
 obtain ⟨π,α,δ,h,E,R,S,q,k⟩:=zz0
 refine ⟨π,α,δ,h,_,R,S,q,fun c h1 α1 H1 f1 e1 R1=>?_⟩
 cases c with
 |true=>exact iteT ⟨π,α1,δ,h1,E,R1,S.mono e1,by simpa using f1,k.mono e1⟩
 |false=>exact iteF ⟨π,α1,δ,h1,E,R1,S.mono e1,by simpa using f1,k.mono e1⟩
theorem asg_lift{K:PySem.W.Frag}{Ex:XK}{tg:DG}{F:Ends}{σ:L2.St}{H:Hp}(w:LS K Ex (dAsg fe tg) F σ H):tAsg (LE K fe) (LG K tg) F σ H:=by
 obtain ⟨π,α,δ,h,E,R,S,q,k⟩:=w
 refine ⟨π,α,δ,h,_,R,S,q,fun d h1 α1 H1 v1 f1 e1 R1 q1=>?_⟩
 exact ⟨π,α1,δ,h1,d,E.nx,R1,S.mono e1,q1,f1,fun δ' h' α' H' σ' a b c d'=>k.nx δ' h' α' H' σ' a (e1.trans b) c d'⟩
theorem s_asg{tg:Expr}{t:DG}(he:SE X e fe)(hg:SG X tg t)(hs:swapsWithSole [tg] e pos.line X.env=pure false:=by rfl)(hw:swappedStores [tg] e X.env=pure none:=by rfl)
  (h1:(assignEach [tg] X.env).map (·.2)=[assign tg X.env]:=by rfl):SS X (.Assign [tg] e pos) (dAsg fe t):=PS.imp (ps_asg he hg hs hw h1) fun _ _ _ w=>asg_lift w
theorem asgN_lift{K:PySem.W.Frag}{Ex:XK}{i:Nat}{F:Ends}{σ:L2.St}{H:Hp}(w:LS K Ex (dAsg fe (dName i)) F σ H):tAsg (LE K fe) (gName i) F σ H:=by
 obtain ⟨π,α,δ,h,E,R,S,q,k⟩:=w
 exact ⟨π,α,δ,h,_,R,S,q,fun d h1 α1 H1 v1 f1 e1 R1 q1=>k.nx _ h1 α1 H1 _ f1 e1 R1 ((S.mono e1).set i q1)⟩
theorem s_set{i:Nat}{x:Str}{pos':Pos}(hN:X.N.Nodup)(hi:X.N[i]?=some x)(hx:Loc X.env.scope x)(he:SE X e fe)(hs:swapsWith e (some (.Name x pos')) pos.line X.env=pure false:=by rfl)(hf:X.fn x=true∨X.env.scope.names.lookup x=some .local:=by trivial) :
  SS X (.Assign [.Name x pos'] e pos) (dAsg fe (dName i)):=PS.imp (ps_set hN hi hx he hs hf) fun _ _ _ w=>asgN_lift w
noncomputable def dAugS(fo fi fe:DE)(p:P2):DS:=fun E δ h=>fo δ h fun o h1=>fi δ h1 fun i h2=>match o,i with
 |.ref j,.int n=>0 ≤ n∧match h2[j]? with
  |some (.lst xs)=>match xs[n.toNat]? with
   |some x=>fe δ h2 fun y h3=>p x y h3 fun z h4=>setD o i z h4 fun h5=>E.nx δ h5
   |none=>False
  |_=>False
 |_,_=>False
end
structure Src where
 items:List D
 w:List (Nat×O)
noncomputable def Src.ok(S:Src)(h:Hh):Prop:=∀ p ∈ S.w,h[p.1]?=some p.2
theorem Src.ok_nil{xs:List D}{h:Hh}:(Src.mk xs []).ok h:=fun p hp=>nomatch hp
noncomputable abbrev DI:=Sl→Hh→(Src→Hh→Prop)→Prop
structure ItOk(K:KP)(J:It)(S:Src)(St:List Addr→Hp→Prop):Prop where
 keep:∀ α H α' H',St α H→Ext α H α' H'→St α' H'
 priv:∀ α H H' D,St α H→Priv D H H'→D ∈ K.π→St α H'
 item:∀ α H h i d,HRel K α H h→St α H→S.ok h→S.items[i]?=some d→J.go i H∧∀ x H',J.yld i H x H'→Ext α H α H'∧HRel K α H' h∧RelD K α H' d x
 stop:∀ α H h,HRel K α H h→St α H→S.ok h→J.stop S.items.length H
noncomputable def ItA(K:PySem.W.Frag)(π:List Addr)(α:List Addr)(H:Hp)(J:It)(S:Src):Prop:=∀ π',(∀ p ∈ π',p ∈ π∨H p=none)→∃ St,ItOk ⟨K,π'⟩ J S St∧St α H
inductive LI(K:PySem.W.Frag)(f:DI)(σ:St)(H:Hp)(R:It→Hp→Prop):Prop
 |mk (π:List Addr) (α:List Addr) (δ:Sl) (h:Hh) (Q':Src→Hh→Prop):HRel ⟨K,π⟩ α H h→RelS ⟨K,π⟩ α H δ σ→f δ h Q'→(∀ S h' α' H' J,Q' S h'→Ext α H α' H'→HRel ⟨K,π⟩ α' H' h'→ItA K π α' H' J S→S.ok h'→R J H')→LI K f σ H R
noncomputable def SI(X:Cx)(tg iter:Expr)(f:DI):Prop:=PI X tg iter (LI X.K f)
noncomputable def forL(S:Src)(t:DG)(b:DS)(E:DEnds):List D→Sl→Hh→Prop
 |[],δ,h=>S.ok h∧E.nx δ h
 |x :: r,δ,h=>S.ok h∧t x δ h fun δ2 h2=>b { E with nx:=forL S t b E r,ct:=forL S t b E r,bk:=E.nx } δ2 h2
noncomputable def dFor(s:DI)(t:DG)(b:DS):DS:=fun E δ h=>s δ h fun S h1=>forL S t b E S.items δ h1
theorem s_for{X:Cx}{tg iter:Expr}{body:List Stmt}{s:DI}{t:DG}{b:DS}{pos:Pos}(hp:PassesOwn (model X.prog X.w) X.A X.env X.xe)(hc:X.calm=true)(hi:SI X tg iter s)(hg:SG X tg t)(hb:SSs X body b)
  (hs:∀ x,foldedSetIterable iter X.env x=pure x:=by intro _;rfl):SS X (.For tg iter body [] pos) (dFor s t b):=PS.imp (ps_for hp hc hi hg hb hs) fun F σ H ⟨π,α,δ,h,E,R,S,q,k⟩=>by
 refine ⟨π,α,δ,h,_,R,S,q,fun Sr h1 α1 H1 J f1 e1 R1 ia ok1=>?_⟩
 obtain ⟨St,io,st1⟩:=ia π (fun p z=>.inl z)
 refine ⟨fun i m σ' H'=>m=Sr.items.length - i∧i ≤ Sr.items.length∧∃ α' δ' h',Ext α H α' H'∧HRel ⟨X.K,π⟩ α' H' h'∧RelS ⟨X.K,π⟩ α' H' δ' σ'∧St α' H'∧forL Sr t b E (Sr.items.drop i) δ' h',⟨_,rfl,Nat.zero_le _,α1,δ,h1,e1,R1,S.mono e1,st1,f1⟩,?_⟩
 rintro i m σ' H' ⟨rfl,hi,α',δ',h',e',R',S',st',q'⟩
 by_cases hlt:i < Sr.items.length
 ·rw [List.drop_eq_getElem_cons hlt] at q'
  obtain ⟨okh,q'⟩:=q'
  obtain ⟨go,yl⟩:=io.item α' H' h' i Sr.items[i] R' st' okh (List.getElem?_eq_getElem hlt)
  refine .inr ⟨go,fun σ2 H2=>∃ α2 δ2 h2,Ext α H α2 H2∧HRel ⟨X.K,π⟩ α2 H2 h2∧RelS ⟨X.K,π⟩ α2 H2 δ2 σ2∧St α2 H2∧forL Sr t b E (Sr.items.drop (i + 1)) δ2 h2,fun σ2 H2 z=>⟨_,by omega,rfl,hlt,z⟩,fun x H2 y2=>?_⟩
  obtain ⟨e2,R2,r2⟩:=yl x H2 y2
  refine ⟨π,α',δ',h',Sr.items[i],_,R2,S'.mono e2,r2,q',fun δ3 h3 α3 H3 σ3 f3 e3 R3 S3=>?_⟩
  have e4:=e'.trans (e2.trans e3)
  have k3:=k.mono e4
  have st3:=io.keep _ _ _ _ st' (e2.trans e3)
  exact ⟨π,α3,δ3,h3,_,R3,S3,f3,⟨fun δ5 h5 α5 H5 σ5 a b c d=>⟨α5,δ5,h5,e4.trans b,c,d,io.keep _ _ _ _ st3 b,a⟩,k3.rt,k3.nx,fun δ5 h5 α5 H5 σ5 a b c d=>⟨α5,δ5,h5,e4.trans b,c,d,io.keep _ _ _ _ st3 b,a⟩,k3.ex⟩⟩
 ·have ei:i=Sr.items.length:=by omega
  subst ei
  rw [List.drop_length] at q'
  exact .inl ⟨io.stop α' H' h' R' st' q'.1,k.nx δ' h' α' H' σ' q'.2 e' R' S'⟩
noncomputable def compSl(js:List (Option Nat))(δ:Sl):Sl:=js.map fun j=>match j with
 |some j=>(δ[j]?).getD none
 |none=>none
noncomputable def compL(S:Src)(t:DG)(tf:DT)(te:DE):List D→List D→Sl→Hh→(List D→Hh→Prop)→Prop
 |[],acc,_,h,Q=>S.ok h∧Q acc h
 |x :: r,acc,δ,h,Q=>S.ok h∧t x δ h fun δ2 h2=>tf δ2 h2 fun b h3=>if b=true then te δ2 h3 fun y h4=>compL S t tf te r (acc ++ [y]) δ2 h4 Q else compL S t tf te r acc δ2 h3 Q
noncomputable def dComp(js:List (Option Nat))(s:DI)(t:DG)(tf:DT)(te:DE):DN:=fun δ h Q=>s δ h fun S h1=>S.items.length ≤ 16777216∧compL S t tf te S.items [] (compSl js δ) h1 Q
theorem compS_rel{K:KP}{α:List Addr}{H:Hp}{δ:Sl}{σ:L2.St}(S:RelS K α H δ σ)(js:List (Option Nat)):RelS K α H (compSl js δ) (compSt js σ):=by
 refine ⟨by unfold compSl compSt;simp,fun i d e=>?_⟩
 unfold compSl at e
 rw [List.getElem?_map] at e
 unfold compSt
 rw [List.getElem?_map]
 cases q:js[i]? with
 |none=>rw [q] at e;cases e
 |some j =>
  rw [q] at e
  cases j with
  |none=>cases e
  |some j =>
   have e:(δ[j]?).getD none=some d:=Option.some.inj e
   cases w:δ[j]? with
   |none=>rw [w] at e;cases e
   |some z =>
    rw [w] at e
    have e:z=some d:=e
    subst e
    obtain ⟨v,h1,h2⟩:=S.get j d w
    exact ⟨v,by show some ((σ[j]?).getD none)=_;rw [h1];rfl,h2⟩
theorem comp_lift{K:PySem.W.Frag}{js:List (Option Nat)}{s:DI}{t:DG}{tf:DT}{te:DE}{σ:L2.St}{H:Hp}{Q:VK}(w:LN K (dComp js s t tf te) σ H Q) :
  tComp js (LI K s) (fun _ _ _=>LG K t) (fun _ _ _=>LT K tf) (fun _ _ _=>LE K te) σ H Q:=by
 obtain ⟨π,α,δ,h,Q',R,S,q,k⟩:=w
 refine ⟨π,α,δ,h,_,R,S,q,fun Sr h1 α1 H1 J f1 e1 R1 ia ok1=>fun Da hD s0 H0 fp=>?_⟩
 obtain ⟨hlen,f1⟩:=f1
 have sub:∀ p ∈ Da :: π,p ∈ π∨H1 p=none:=fun p hp=>by
  rcases List.mem_cons.mp hp with rfl | z
  ·exact .inr hD
  ·exact .inl z
 obtain ⟨St,io,st1⟩:=ia (Da :: π) sub
 have eN:Ext α1 H1 α1 (upd H1 Da (.lst [])):=Ext.new hD
 have hin:Da ∈ (KP.mk K (Da :: π)).π:=List.mem_cons_self
 refine ⟨fun i m σ' H'=>m=Sr.items.length - i∧i ≤ Sr.items.length∧∃ α' δ' h' acc us,Ext α1 H1 α' H'∧HRel ⟨K,Da :: π⟩ α' H' h'∧RelS ⟨K,Da :: π⟩ α' H' δ' σ'∧St α' H'∧H' Da=some (.lst us)∧RelDs ⟨K,Da :: π⟩ α' H' acc us∧acc.length ≤ i ∧
   compL Sr t tf te (Sr.items.drop i) acc δ' h' Q',⟨_,rfl,Nat.zero_le _,α1,compSl js δ,h1,[],[],eN,R1.under hD,(compS_rel ((S.mono e1).more sub) js).mono eN,io.keep _ _ _ _ st1 eN,upd_same,.nil,Nat.le_refl _,f1⟩,?_⟩
 rintro i m σ' H' ⟨rfl,hi,α',δ',h',acc,us,e',R',S',st',hus,ra,la,q'⟩
 have nD:Da ∉ α':=(R'.dis Da hin).1
 by_cases hlt:i < Sr.items.length
 ·rw [List.drop_eq_getElem_cons hlt] at q'
  obtain ⟨okh,q'⟩:=q'
  obtain ⟨go,yl⟩:=io.item α' H' h' i Sr.items[i] R' st' okh (List.getElem?_eq_getElem hlt)
  refine .inr ⟨go,fun x H2 y2=>?_⟩
  obtain ⟨e2,R2,r2⟩:=yl x H2 y2
  refine ⟨Da :: π,α',δ',h',Sr.items[i],_,R2,S'.mono e2,r2,q',fun δ3 h3 α3 H3 σ3 f3 e3 R3 S3=>?_⟩
  refine ⟨Da :: π,α3,δ3,h3,_,R3,S3,f3,fun b h4 α4 H4 f4 e4 R4=>?_⟩
  have e24:=e2.trans (e3.trans e4)
  cases b with
  |false =>
   refine iteF ⟨_,by omega,rfl,hlt,α4,δ3,h4,acc,us,e'.trans e24,R4,S3.mono e4,io.keep _ _ _ _ st' e24,e24.keep _ _ hus nD,ra.mono e24,by omega,by simpa using f4⟩
  |true =>
   have f4:te δ3 h4 fun y h5=>compL Sr t tf te (Sr.items.drop (i + 1)) (acc ++ [y]) δ3 h5 Q':=by simpa using f4
   refine iteT ⟨Da :: π,α4,δ3,h4,_,R4,S3.mono e4,f4,fun y h5 α5 H5 v5 f5 e5 R5 q5=>?_⟩
   have e25:=e24.trans e5
   have h5D:H5 Da=some (.lst us):=e25.keep _ _ hus nD
   have pv:Priv Da H5 (upd H5 Da (.lst (us ++ [v5]))):=⟨fun b hb=>upd_ne hb⟩
   have ra5:=ra.mono e25
   refine ⟨us,h5D,by rw [← ra5.length,sizeLine_eq];omega,_,by omega,rfl,hlt,α5,δ3,h5,acc ++ [y],us ++ [v5],(e'.trans e25).grow hD,R5.priv pv hin (by rw [upd_same];exact ⟨(fun z=>by cases z),fun _ z=>by cases z⟩),(S3.mono (e4.trans e5)).priv pv hin,io.priv _ _ _ _ (io.keep _ _ _ _ st' e25) pv hin,upd_same,(ra5.snoc q5).priv pv hin,by rw [List.length_append,List.length_singleton];omega,f5⟩
 ·have ei:i=Sr.items.length:=by omega
  subst ei
  rw [List.drop_length] at q'
  exact .inl ⟨io.stop α' H' h' R' st' q'.1,k _ h' α' H' us Da q'.2 (e1.trans e') R' ra hus (e1.dom Da hD) (R1.outP hD)⟩
noncomputable def dNoIf:DT:=fun _ h Q=>Q true h
section
variable {X:Cx} {pins:List (Addr×Obj)} {σ:L2.St} {H:Hp} {s:Shared} {N':List Str} {js:List (Option Nat)} {scope:Scope}
noncomputable def SF(X:Cx)(es:List Expr)(t:DT):Prop:=PF X es (LT X.K t)
theorem PF.imp{es:List Expr}{t t':TT}(h:PF X es t)(k:∀ σ H Q,t' σ H Q→t σ H Q):PF X es t':=fun pins s σ H Q I q=>h pins s σ H Q I (k σ H Q q)
theorem sf_nil:SF X [] dNoIf:=PF.imp pf_nil fun σ H Q ⟨π,α,δ,h,Q',R,S,f,k⟩=>k true h α H f (Ext.refl ..) R
theorem sf_one{c:Expr}{t:DT}(h:ST X c t):SF X [c] t:=pf_one h
variable {tg iter elt:Expr} {ifs:List Expr} {pos:Pos} {sr:DI} {g:DG} {tf:DT} {te:DE}
theorem sn_comp(hc:X.calm=true)(C:CompOk X N' js scope)(hi:SI X tg iter sr)
  (body:∀ (s0:Shared) (H0:Hp) (fp:List Addr),SG (cxComp X N' scope s0 H0 fp) tg g∧SF (cxComp X N' scope s0 H0 fp) ifs tf∧SE (cxComp X N' scope s0 H0 fp) elt te)
  (hs:∀ x,foldedSetIterable iter X.env x=pure x:=by intro _;rfl):SN X (.ListComp elt [⟨tg,iter,ifs,0⟩] scope pos) (dComp js sr g tf te) :=
 PE.imp (pe_comp hc C hi (g:=fun _ _ _=>LG X.K g) (tf:=fun _ _ _=>LT X.K tf) (te:=fun _ _ _=>LE X.K te) body hs) fun _ _ _ w=>comp_lift w
theorem s_setcV{i:Nat}{x:Str}{px cpos:Pos}(hc:X.calm=true)(C:CompOk X N' js scope)(hi:SI X tg iter sr)
  (body:∀ (s0:Shared) (H0:Hp) (fp:List Addr),SG (cxComp X N' scope s0 H0 fp) tg g∧SF (cxComp X N' scope s0 H0 fp) ifs tf∧SE (cxComp X N' scope s0 H0 fp) elt te)
  (hN:X.N.Nodup) (hix:X.N[i]?=some x) (hx:Loc X.env.scope x)
  (hsw:swapsWith (.ListComp elt [⟨tg,iter,ifs,0⟩] scope cpos) (some (.Name x px)) pos.line X.env=pure true:=by rfl) (hf:X.fn x=true∨X.env.scope.names.lookup x=some .local:=by trivial)
  (hs:∀ x,foldedSetIterable iter X.env x=pure x:=by intro _;rfl):SS X (.Assign [.Name x px] (.ListComp elt [⟨tg,iter,ifs,0⟩] scope cpos) pos) (dAsg (dV (dComp js sr g tf te)) (dName i)) :=
 PS.imp (ps_setc hc C hi (g:=fun _ _ _=>LG X.K g) (tf:=fun _ _ _=>LT X.K tf) (te:=fun _ _ _=>LE X.K te) body hN hix hx hsw hf hs) fun F σ H w=>by
  obtain ⟨π,α,δ,h,E,R,S,q,k⟩:=w
  exact comp_lift (Q:=fun x H1=>gName i x σ H1 F.nx) ⟨π,α,δ,h,_,R,S,q,fun ds h1 α1 H1 us p f1 e1 R1 q1 hus hp np=>k.nx _ h1 α1 H1 _ f1 e1 R1.less (((S.mono e1)).set i (.lst ⟨(R1.dis p List.mem_cons_self).1,np,hus⟩ (q1.more fun q hq=>.inl (List.mem_cons_of_mem _ hq))))⟩
theorem s_setcT{i:Nat}{x:Str}{px cpos:Pos}(hc:X.calm=true)(C:CompOk X N' js scope)(hi:SI X tg iter sr)
  (body:∀ (s0:Shared) (H0:Hp) (fp:List Addr),SG (cxComp X N' scope s0 H0 fp) tg g∧SF (cxComp X N' scope s0 H0 fp) ifs tf∧SE (cxComp X N' scope s0 H0 fp) elt te)
  (hN:X.N.Nodup) (hix:X.N[i]?=some x) (hx:Loc X.env.scope x)
  (hsw:swapsWith (.ListComp elt [⟨tg,iter,ifs,0⟩] scope cpos) (some (.Name x px)) pos.line X.env=pure true:=by rfl) (hf:X.fn x=true∨X.env.scope.names.lookup x=some .local:=by trivial)
  (hs:∀ x,foldedSetIterable iter X.env x=pure x:=by intro _;rfl):SS X (.Assign [.Name x px] (.ListComp elt [⟨tg,iter,ifs,0⟩] scope cpos) pos) (dAsg (dTk (dComp js sr g tf te)) (dName i)) :=
 PS.imp (ps_setc hc C hi (g:=fun _ _ _=>LG X.K g) (tf:=fun _ _ _=>LT X.K tf) (te:=fun _ _ _=>LE X.K te) body hN hix hx hsw hf hs) fun F σ H w=>by
  obtain ⟨π,α,δ,h,E,R,S,q,k⟩:=w
  exact comp_lift (Q:=fun x H1=>gName i x σ H1 F.nx) ⟨π,α,δ,h,_,R,S,q,fun ds h1 α1 H1 us p f1 e1 R1 q1 hus hp np=>k.nx (δ.set i (some (.ref h1.length))) (h1 ++ [.lst ds]) (α1 ++ [p]) H1 _ (by exact f1) (e1.adopt hp) (R1.adopt np (.lst hus q1.adopt)) ((S.mono (e1.adopt hp)).set i (.ref (by rw [← R1.len];simp)))⟩
end
end DL
namespace DL
open PySem PySem.Spec L2
mutual
inductive IsP(h:Hh):D→PyData→Prop
 |non:IsP h .non .none
 |bl (b:Bool):IsP h (.bl b) (.bool b)
 |int (i:Int):IsP h (.int i) (.int i)
 |str (x:Str):IsP h (.str x) (.str x)
 |tup {ds:List D} {ps:List PyData}:IsPs h ds ps→IsP h (.tup ds) (.tuple ps)
 |lst {ds:List D} {ps:List PyData}:IsPs h ds ps→IsP h (.lst ds) (.list ps)
 |ref {i:Nat} {ds:List D} {ps:List PyData}:h[i]?=some (.lst ds)→IsPs h ds ps→IsP h (.ref i) (.list ps)
inductive IsPs(h:Hh):List D→List PyData→Prop
 |nil:IsPs h [] []
 |cons {d:D} {p:PyData} {ds:List D} {ps:List PyData}:IsP h d p→IsPs h ds ps→IsPs h (d :: ds) (p :: ps)
end
section
variable {X:Cx} {pins:List (Addr×Obj)} {σ:L2.St} {H:Hp} {s:Shared} {π α:List Addr} {h:Hh}
theorem IsP.reads(I:Inv X pins σ H s)(R:HRel ⟨X.K,π⟩ α H h){d:D}{p:PyData}(e:IsP h d p):∀ {v:V} {u:Value},RelD ⟨X.K,π⟩ α H d v→RelV v u→∃ as,Reads s.heap u p as:=by
 refine IsP.rec (motive_1:=fun d p _=>∀ {v:V} {u:Value},RelD ⟨X.K,π⟩ α H d v→RelV v u→∃ as,Reads s.heap u p as) (motive_2:=fun ds ps _=>∀ {vs:List V} {us:List Value},RelDs ⟨X.K,π⟩ α H ds vs→Vals vs us→∃ as,ReadsAll s.heap us ps as) ?_ ?_ ?_ ?_ ?_ ?_ ?_ ?_ ?_ e
 ·intro v u q r;cases q;cases r;exact ⟨_,.none⟩
 ·intro b v u q r;cases q;cases r;exact ⟨_,.bool b⟩
 ·intro i v u q r;cases q;obtain ⟨t,rfl⟩:=r;exact ⟨_,.int i t⟩
 ·intro x v u q r;cases q;obtain ⟨t,rfl⟩:=r;exact ⟨_,.str x t⟩
 ·intro ds ps _ ih v u q0 r
  cases q0 with
  |tup t rr =>
   cases r
   obtain ⟨its,rv,⟨o,q,c,n,d⟩,_⟩:=I.tuple t.sq
   obtain ⟨as,ra⟩:=ih rr rv
   exact ⟨_,.tuple q c d (by simpa using ra)⟩
 ·intro ds ps _ ih v u q0 r
  cases q0 with
  |lst t rr =>
   cases r
   obtain ⟨its,rv,⟨o,n,q,c,_,d⟩,_⟩:=I.list t.sq
   obtain ⟨as,ra⟩:=ih rr rv
   exact ⟨_,.list q c d (by simpa using ra)⟩
 ·intro i ds ps hh _ ih v u q0 r
  cases q0 with
  |ref hp =>
   cases r
   obtain ⟨a,us,e1,e2,e3⟩:=R.lst hh
   rw [hp] at e1;cases e1
   obtain ⟨its,rv,⟨o,n,q,c,_,d⟩,_⟩:=I.list (SqL.of (K:=X.K) e2)
   obtain ⟨as,ra⟩:=ih e3 rv
   exact ⟨_,.list q c d (by simpa using ra)⟩
 ·intro vs us q r;cases q;cases r;exact ⟨_,.nil⟩
 ·intro d ds p ps _ _ ih iht vs us q r
  cases q with
  |cons rr rs =>
   cases r with
   |cons r1 r2 =>
    obtain ⟨as,ra⟩:=ih rr r1
    obtain ⟨bs,rb⟩:=iht rs r2
    exact ⟨_,.cons ra rb⟩
end
noncomputable def eqS:D→D→Option Bool
 |.int i,.int j=>some (i == j)
 |.str a,.str b=>if PyData.strOk a && PyData.strOk b then some (a == b) else none
 |.bl a,.bl b=>some (a == b)
 |.non,.non=>some true
 |.int _,.str b=>if PyData.strOk b then some false else none
 |.str a,.int _=>if PyData.strOk a then some false else none
 |.non,.int _=>some false
 |.int _,.non=>some false
 |.non,.tup _=>none
 |_,_=>none
noncomputable def pEq(neg:Bool):P2:=fun x y h Q=>match eqS x y with
 |some b=>Q (.bl (if neg then !b else b)) h
 |none=>∃ a b,IsP h x a∧IsP h y b∧SeqAt.shaped a=true∧SeqAt.shaped b=true∧Q (.bl (if neg then !PyData.eqv a b else PyData.eqv a b)) h
theorem eqS_ok{h:Hh}{x y:D}{b:Bool}(e:eqS x y=some b):∃ p q,IsP h x p∧IsP h y q∧SeqAt.shaped p=true∧SeqAt.shaped q=true∧PyData.eqv p q=b:=by
 have si:∀ i:Int,SeqAt.shaped (.int i)=true:=fun i=>by simp [SeqAt.shaped,PyData.canLay0,PyData.depth]
 have sn:SeqAt.shaped .none=true:=by simp [SeqAt.shaped,PyData.canLay0,PyData.depth]
 have sb:∀ b:Bool,SeqAt.shaped (.bool b)=true:=fun i=>by simp [SeqAt.shaped,PyData.canLay0,PyData.depth]
 have ss:∀ x:Str,PyData.strOk x=true→SeqAt.shaped (.str x)=true:=fun x hx=>by simp [SeqAt.shaped,PyData.canLay0,PyData.depth,hx]
 cases x with
 |int i =>
  cases y with
  |int j=>cases e;exact ⟨_,_,.int _,.int _,si _,si _,rfl⟩
  |str t =>
   have e:(if PyData.strOk t=true then some false else none)=some b:=e
   by_cases q:PyData.strOk t=true
   ·rw [if_pos q] at e;cases e;exact ⟨_,_,.int _,.str _,si _,ss _ q,rfl⟩
   ·rw [if_neg q] at e;cases e
  |non=>cases e;exact ⟨_,_,.int _,.non,si _,sn,rfl⟩
  |_=>cases e
 |str a =>
  cases y with
  |int j =>
   have e:(if PyData.strOk a=true then some false else none)=some b:=e
   by_cases q:PyData.strOk a=true
   ·rw [if_pos q] at e;cases e;exact ⟨_,_,.str _,.int _,ss _ q,si _,rfl⟩
   ·rw [if_neg q] at e;cases e
  |str t =>
   have e:(if (PyData.strOk a && PyData.strOk t)=true then some (a == t) else none)=some b:=e
   by_cases q:(PyData.strOk a && PyData.strOk t)=true
   ·rw [if_pos q] at e
    rw [Bool.and_eq_true] at q
    cases e;exact ⟨_,_,.str _,.str _,ss _ q.1,ss _ q.2,rfl⟩
   ·rw [if_neg q] at e;cases e
  |_=>cases e
 |bl a =>
  cases y with
  |bl c=>cases e;exact ⟨_,_,.bl _,.bl _,sb _,sb _,rfl⟩
  |_=>cases e
 |non =>
  cases y with
  |non=>cases e;exact ⟨_,_,.non,.non,sn,sn,rfl⟩
  |int j=>cases e;exact ⟨_,_,.non,.int _,sn,si _,rfl⟩
  |_=>cases e
 |_=>cases e
section
variable {X:Cx}
theorem pEq_all{neg:Bool}{x y:D}{h:Hh}{Q:DK}(f:pEq neg x y h Q):∃ a b,IsP h x a∧IsP h y b∧SeqAt.shaped a=true∧SeqAt.shaped b=true∧Q (.bl (if neg then !PyData.eqv a b else PyData.eqv a b)) h:=by
 unfold pEq at f
 cases q:eqS x y with
 |none=>rw [q] at f;exact f
 |some b =>
  rw [q] at f
  obtain ⟨p,q,a,b',c,d,e⟩:=eqS_ok (h:=h) q
  exact ⟨p,q,a,b',c,d,by rw [e];exact f⟩
theorem ok_eq(hu:X.A.units + 64 < cLine):OpR X (compareOp .Eq) (r2 X.K (pEq false)):=by
 intro pins s σ H x y v u Q I rx ry ⟨π,α,h,d,e,Q',R,r1,r2,f,k⟩
 obtain ⟨a,b,ia,ib,sa,sb,q⟩:=pEq_all f
 obtain ⟨as,ra⟩:=ia.reads I R r1 rx
 obtain ⟨bs,rb⟩:=ib.reads I R r2 ry
 exact SeqAt.compareEq_shaped ra rb sa sb hu ⟨.bl (PyData.eqv a b),H,I,rfl,k _ h α H _ q (Ext.refl ..) R (.bl _)⟩
theorem ok_ne(hu:X.A.units + 64 < cLine):OpR X (compareOp .NotEq) (r2 X.K (pEq true)):=by
 intro pins s σ H x y v u Q I rx ry ⟨π,α,h,d,e,Q',R,r1,r2,f,k⟩
 obtain ⟨a,b,ia,ib,sa,sb,q⟩:=pEq_all f
 obtain ⟨as,ra⟩:=ia.reads I R r1 rx
 obtain ⟨bs,rb⟩:=ib.reads I R r2 ry
 exact SeqAt.compareNe_shaped ra rb sa sb hu ⟨.bl (!PyData.eqv a b),H,I,rfl,k _ h α H _ q (Ext.refl ..) R (.bl _)⟩
end
structure SeqIt(K:KP)(Sq:Hp→List V→Prop)(xs:List D)(w:List (Nat×O))(St:List Addr→Hp→Prop):Prop where
 keep:∀ α H α' H',St α H→Ext α H α' H'→St α' H'
 priv:∀ α H H' D,St α H→Priv D H H'→D ∈ K.π→St α H'
 get:∀ α H h,HRel K α H h→St α H→(∀ p ∈ w,h[p.1]?=some p.2)→∃ us,Sq H us∧RelDs K α H xs us
noncomputable def SeqA(K:PySem.W.Frag)(π α:List Addr)(H:Hp)(Sq:Hp→List V→Prop)(xs:List D)(w:List (Nat×O)):Prop:=∀ π',(∀ p ∈ π',p ∈ π∨H p=none)→∃ St,SeqIt ⟨K,π'⟩ Sq xs w St∧St α H
noncomputable def seqSrc(h:Hh):D→Option Src
 |.tup xs=>some ⟨xs,[]⟩
 |.lst xs=>some ⟨xs,[]⟩
 |.scr xs=>some ⟨xs,[]⟩
 |.ref i=>match h[i]? with | some (.lst xs)=>some ⟨xs,[(i,.lst xs)]⟩ | _=>none
 |_=>none
theorem seqSrc_ok{K:PySem.W.Frag}{π α:List Addr}{H:Hp}{h:Hh}(R:HRel ⟨K,π⟩ α H h){d:D}{v:V}{S:Src}(r:RelD ⟨K,π⟩ α H d v)(e:seqSrc h d=some S) :
  ∃ a,v = .ref a∧S.ok h∧(((∃ us,SqL K H a us)∧SeqA K π α H (fun H us=>SqL K H a us) S.items S.w)∨((∃ us,SqT K H a us)∧SeqA K π α H (fun H us=>SqT K H a us) S.items S.w)):=by
 cases r with
 |@tup a us ds t rs =>
  cases e
  exact ⟨a,rfl,Src.ok_nil,.inr ⟨⟨us,t.sq⟩,fun π' s=>⟨fun α H=>VT ⟨K,π'⟩ α H a us∧RelDs ⟨K,π'⟩ α H ds us,⟨fun α H α' H' st e=>⟨st.1.mono e,st.2.mono e⟩,fun α H H' D st e hD=>⟨st.1.priv e hD,st.2.priv e hD⟩,fun α H h R st _=>⟨us,st.1.sq,st.2⟩⟩,t.more s,rs.more s⟩⟩⟩
 |@lst a us ds t rs =>
  cases e
  exact ⟨a,rfl,Src.ok_nil,.inl ⟨⟨us,t.sq⟩,fun π' s=>⟨fun α H=>VL ⟨K,π'⟩ α H a us∧RelDs ⟨K,π'⟩ α H ds us,⟨fun α H α' H' st e=>⟨st.1.mono e,st.2.mono e⟩,fun α H H' D st e hD=>⟨st.1.priv e hD,st.2.priv e hD⟩,fun α H h R st _=>⟨us,st.1.sq,st.2⟩⟩,t.more s,rs.more s⟩⟩⟩
 |@scr a us ds t rs =>
  cases e
  exact ⟨a,rfl,Src.ok_nil,.inl ⟨⟨us,t.sq⟩,fun π' s=>⟨fun α H=>VS ⟨K,π'⟩ α H a us∧RelDs ⟨K,π'⟩ α H ds us,⟨fun α H α' H' st e=>⟨st.1.mono e,st.2.mono e⟩,fun α H H' D st e hD=>⟨st.1.priv e hD,st.2.priv e hD⟩,fun α H h R st _=>⟨us,st.1.sq,st.2⟩⟩,t.more s,rs.more s⟩⟩⟩
 |@ref i a hp =>
  have e:(match h[i]? with | some (.lst xs)=>some (Src.mk xs [(i,.lst xs)]) | _=>none)=some S:=e
  cases q:h[i]? with
  |none=>rw [q] at e;cases e
  |some o =>
   rw [q] at e
   cases o with
   |lst xs =>
    cases e
    obtain ⟨p,us,e1,e2,e3⟩:=R.lst q
    rw [hp] at e1;cases e1
    refine ⟨a,rfl,fun z hz=>by rw [List.mem_singleton.mp hz];exact q,.inl ⟨⟨us,SqL.of e2⟩,fun π' s=>⟨fun α H=>α[i]?=some a,⟨fun α H α' H' st e=>e.get st,fun α H H' D st e hD=>st,fun α H h R st w=>?_⟩,hp⟩⟩⟩
    obtain ⟨p,us,e1,e2,e3⟩:=R.lst (w (i,.lst xs) (List.mem_singleton.mpr rfl))
    rw [st] at e1;cases e1
    exact ⟨us,SqL.of e2,e3⟩
   |_=>cases e
 |_=>cases e
theorem it_list{K:PySem.W.Frag}{π α:List Addr}{H:Hp}{a:Addr}{S:Src}(s:SeqA K π α H (fun H us=>SqL K H a us) S.items S.w):ItA K π α H (Itl K a) S:=fun π' sub=>by
 obtain ⟨St,si,st⟩:=s π' sub
 refine ⟨St,⟨si.keep,si.priv,fun α H h i d R st ok hi=>?_,fun α H h R st ok=>?_⟩,st⟩
 ·obtain ⟨us,hq,rs⟩:=si.get α H h R st ok
  obtain ⟨u,hu,ru⟩:=rs.get hi
  refine ⟨⟨us,u,hq,hu⟩,fun x H' ⟨e1,e2⟩=>?_⟩
  subst e1
  have:=(e2 us hq).symm.trans hu
  cases this
  exact ⟨Ext.refl ..,R,ru⟩
 ·obtain ⟨us,hq,rs⟩:=si.get α H h R st ok
  exact ⟨us,hq,by rw [← rs.length];exact Nat.le_refl _⟩
theorem it_tup{K:PySem.W.Frag}{π α:List Addr}{H:Hp}{a:Addr}{S:Src}(s:SeqA K π α H (fun H us=>SqT K H a us) S.items S.w):ItA K π α H (Itt K a) S:=fun π' sub=>by
 obtain ⟨St,si,st⟩:=s π' sub
 refine ⟨St,⟨si.keep,si.priv,fun α H h i d R st ok hi=>?_,fun α H h R st ok=>?_⟩,st⟩
 ·obtain ⟨us,hq,rs⟩:=si.get α H h R st ok
  obtain ⟨u,hu,ru⟩:=rs.get hi
  refine ⟨⟨us,u,hq,hu⟩,fun x H' ⟨e1,e2⟩=>?_⟩
  subst e1
  have:=(e2 us hq).symm.trans hu
  cases this
  exact ⟨Ext.refl ..,R,ru⟩
 ·obtain ⟨us,hq,rs⟩:=si.get α H h R st ok
  exact ⟨us,hq,by rw [← rs.length];exact Nat.le_refl _⟩
noncomputable def enumD:Int→List D→List D
 |_,[]=>[]
 |n,x :: r=>.tup [.int n,x] :: enumD (n + 1) r
theorem enumD_get:∀ (n:Int) (xs:List D) (i:Nat),(enumD n xs)[i]?=(xs[i]?).map fun x=>.tup [.int (n + i),x]
 |n,[],i=>by simp [enumD]
 |n,x :: r,0=>by simp [enumD]
 |n,x :: r,i + 1=>by
  have:=enumD_get (n + 1) r i
  simp only [enumD,List.getElem?_cons_succ,this]
  congr 1;funext y;congr 3;push_cast;omega
theorem enumD_length:∀ (n:Int) (xs:List D),(enumD n xs).length=xs.length
 |_,[]=>rfl
 |n,x :: r=>by simp [enumD,enumD_length (n + 1) r]
theorem it_enum{K:PySem.W.Frag}{π α:List Addr}{H:Hp}{Sq:Hp→List V→Prop}{S:Src}(s:SeqA K π α H Sq S.items S.w):ItA K π α H (Ite Sq) ⟨enumD 0 S.items,S.w⟩:=fun π' sub=>by
 obtain ⟨St,si,st⟩:=s π' sub
 refine ⟨St,⟨si.keep,si.priv,fun α H h i d R st ok hi=>?_,fun α H h R st ok=>?_⟩,st⟩
 ·rw [enumD_get] at hi
  cases q:S.items[i]? with
  |none=>rw [q] at hi;cases hi
  |some y =>
   rw [q] at hi
   cases hi
   obtain ⟨us,hq,rs⟩:=si.get α H h R st ok
   obtain ⟨u,hu,ru⟩:=rs.get q
   refine ⟨⟨us,u,hq,hu⟩,fun x H' ⟨T,v,e0,hT,e1,e2⟩=>?_⟩
   subst e0 e1
   have:=(e2 us hq).symm.trans hu
   obtain rfl:=Option.some.inj this
   have e3:Ext α H α (upd H T (.tup [.int (i:Nat),v])):=Ext.new hT
   refine ⟨e3,R.new hT,.tup ⟨R.out hT,R.outP hT,upd_same⟩ (.cons ?_ (.cons (ru.mono e3) .nil))⟩
   rw [Int.zero_add];exact .int _
 ·obtain ⟨us,hq,rs⟩:=si.get α H h R st ok
  exact ⟨us,hq,by rw [enumD_length,rs.length]⟩
noncomputable def rangeD(lo:Int):Nat→List D
 |0=>[]
 |n + 1=>.int lo :: rangeD (lo + 1) n
theorem rangeD_get:∀ (lo:Int) (n i:Nat),(rangeD lo n)[i]?=if i < n then some (.int (lo + i)) else none
 |lo,0,i=>by simp [rangeD]
 |lo,n + 1,0=>by simp [rangeD]
 |lo,n + 1,i + 1=>by
  have:=rangeD_get (lo + 1) n i
  simp only [rangeD,List.getElem?_cons_succ,this,Nat.add_lt_add_iff_right]
  have e:lo + 1 + (i:Int)=lo + ((i + 1:Nat):Int):=by push_cast;omega
  rw [e]
theorem rangeD_length:∀ (lo:Int) (n:Nat),(rangeD lo n).length=n
 |_,0=>rfl
 |lo,n + 1=>by simp [rangeD,rangeD_length (lo + 1) n]
theorem it_range{K:PySem.W.Frag}{π α:List Addr}{H:Hp}{lo:Int}{n:Nat}:ItA K π α H (Itr lo n) ⟨rangeD lo n,[]⟩:=fun π' sub=>by
 refine ⟨fun _ _=>True,⟨fun _ _ _ _ _ _=>trivial,fun _ _ _ _ _ _ _=>trivial,fun α H h i d R st ok hi=>?_,fun α H h R st ok=>?_⟩,trivial⟩
 ·have hi:(rangeD lo n)[i]?=some d:=hi
  rw [rangeD_get] at hi
  split at hi
  ·rename_i hlt
   cases hi
   exact ⟨hlt,fun x H' ⟨e1,e2⟩=>by subst e1 e2;exact ⟨Ext.refl ..,R,.int _⟩⟩
  ·cases hi
 ·show n ≤ (rangeD lo n).length
  rw [rangeD_length];exact Nat.le_refl _
noncomputable def dISeq(f:DE):DI:=fun δ h Q=>f δ h fun d h1=>match seqSrc h1 d with | some S=>Q S h1 | none=>False
noncomputable def dIEnum(f:DA):DI:=fun δ h Q=>f δ h fun ds h1=>match ds with | [d]=>(match seqSrc h1 d with | some S=>Q ⟨enumD 0 S.items,S.w⟩ h1 | none=>False) | _=>False
noncomputable def dIRange(f:DA):DI:=fun δ h Q=>f δ h fun ds h1=>match ds with
 |[.int j]=>(-(2 ^ 62) ≤ j∧j < 2 ^ 62)∧Q ⟨rangeD 0 j.toNat,[]⟩ h1
 |[.int i,.int j]=>(-(2 ^ 62) ≤ i∧i < 2 ^ 62∧-(2 ^ 62) ≤ j∧j < 2 ^ 62)∧Q ⟨rangeD i (j - i).toNat,[]⟩ h1
 |_=>False
section
variable {X:Cx} {tg:Expr}
theorem PI.imp{e:Expr}{t t':TI}(h:PI X tg e t)(k:∀ σ H Q,t' σ H Q→t σ H Q):PI X tg e t':=fun pins s σ H Q I q=>h pins s σ H Q I (k σ H Q q)
noncomputable def iSeq(K:PySem.W.Frag)(tl:TE):TI:=fun σ H R=>tl σ H fun x H1=>∃ a,x = .ref a∧(((∃ xs,SqL K H1 a xs)∧R (Itl K a) H1)∨((∃ xs,SqT K H1 a xs)∧R (Itt K a) H1))
theorem pi_seq{l:Expr}{tl:TE}(hl:PE X l tl):PI X tg l (iSeq X.K tl):=by
 intro pins s σ H R I h
 refine thn (hl pins s σ H _ I h) fun v s1 zz0=>?_
 obtain ⟨x,H1,I1,r1,q1⟩:=zz0
 obtain ⟨a,e,⟨⟨xs,hq⟩,q⟩ | ⟨⟨xs,hq⟩,q⟩⟩:=q1
 ·subst e
  cases r1
  obtain ⟨its,rv,p,hz⟩:=I1.list hq
  refine wpAny_pyIter_list p.isList ?_
  refine ⟨s1.heap.objs.size,[s1.heap.objs.size],_,_,H1,rfl,I1.kept (t':=s1.toks) fun b o e=>Heap.get?_push_of_some _ e,turn_list a _,⟨_,Heap.get?_push_size _ rfl,rfl,rfl⟩,fun b hb=>?_,q⟩
  have e:b=s1.heap.objs.size:=by simpa using hb
  subst e
  exact I1.fpOk (Nat.le_refl _) (I1.hok.fresh (Nat.le_refl _))
 ·subst e
  cases r1
  obtain ⟨its,rv,p,hz⟩:=I1.tuple hq
  refine wpAny_pyIter_tuple (show s1.heap.IsTuple a its.toArray from p) ?_
  refine ⟨s1.heap.objs.size,[s1.heap.objs.size],_,_,H1,rfl,I1.kept (t':=s1.toks) fun b o e=>Heap.get?_push_of_some _ e,turn_tuple a _,⟨_,Heap.get?_push_size _ rfl,rfl,rfl⟩,fun b hb=>?_,q⟩
  have e:b=s1.heap.objs.size:=by simpa using hb
  subst e
  exact I1.fpOk (Nat.le_refl _) (I1.hok.fresh (Nat.le_refl _))
theorem si_seq{l:Expr}{f:DE}(hl:SE X l f):SI X tg l (dISeq f):=PI.imp (pi_seq hl) fun σ H Q zz0=>by
 obtain ⟨π,α,δ,h,Q',R,S,f,k⟩:=zz0
 refine ⟨π,α,δ,h,_,R,S,f,fun d h1 α1 H1 v1 f1 e1 R1 q1=>?_⟩
 cases q:seqSrc h1 d with
 |none=>rw [q] at f1;exact f1.elim
 |some Sr =>
  rw [q] at f1
  obtain ⟨a,rfl,ok,⟨hu,sa⟩ | ⟨hu,sa⟩⟩:=seqSrc_ok R1 q1 q
  ·exact ⟨a,rfl,.inl ⟨hu,k Sr h1 α1 H1 _ f1 e1 R1 (it_list sa) ok⟩⟩
  ·exact ⟨a,rfl,.inr ⟨hu,k Sr h1 α1 H1 _ f1 e1 R1 (it_tup sa) ok⟩⟩
noncomputable def iEnumS(K:PySem.W.Frag)(ta:TA):TI:=fun σ H R=>ta σ H fun vs H1=>∃ a,vs=[.ref a]∧(((∃ xs,SqL K H1 a xs)∧R (Ite fun H xs=>SqL K H a xs) H1)∨((∃ xs,SqT K H1 a xs)∧R (Ite fun H xs=>SqT K H a xs) H1))
theorem pi_enumS{a:Expr}{ta:TA}{p pos:Pos}(hg:Gl X "enumerate")(hm:X.mg "enumerate" = none)(ha:PA X [a] ta)(htg:∃ es x1 pos,tg = .Tuple es x1 pos:=by exact ⟨_,_,_,rfl⟩)(hs:starEach [a] X.env=[(false,eval a X.env)]:=by rfl):PI X tg (.Call (.Name "enumerate" p) [a] [] pos) (iEnumS X.K ta):=by
 intro pins s σ H R I h
 refine PyProof.Rows.Call_ (ld_blt I hg hm PyProof.Rows.boot_enumerate (PyProof.Rows.callWith_type1 (thn (ha pos pins s σ H _ I h) fun us s1 ⟨vs,H1,I1,r1,q1⟩=>?_) hs rfl))
 obtain ⟨a,e,⟨⟨xs,hq⟩,q⟩ | ⟨⟨xs,hq⟩,q⟩⟩:=q1
 ·subst e
  obtain ⟨u,rfl,ru⟩:=vals1 r1
  cases ru
  obtain ⟨its,rv,p,hz⟩:=I1.list hq
  exact call_enumerate_list p.isList fun h' he hit _ hk=>enum_fin htg I1 (src_list a _) he hit hk q
 ·subst e
  obtain ⟨u,rfl,ru⟩:=vals1 r1
  cases ru
  obtain ⟨its,rv,p,hz⟩:=I1.tuple hq
  exact call_enumerate_tuple (show s1.heap.IsTuple a its.toArray from p) fun h' he hit _ hk=>enum_fin htg I1 (src_tup a _) he hit hk q
theorem si_enum{a:Expr}{n:Nat}{fs:DA}{p pos:Pos}(hg:Gl X "enumerate")(hm:X.mg "enumerate" = none)(ha:SA X [a] n fs)(htg:∃ es x1 pos,tg = .Tuple es x1 pos:=by exact ⟨_,_,_,rfl⟩)(hs:starEach [a] X.env=[(false,eval a X.env)]:=by rfl):SI X tg (.Call (.Name "enumerate" p) [a] [] pos) (dIEnum fs):=PI.imp (pi_enumS hg hm ha htg hs) fun σ H Q zz0=>by
 obtain ⟨π,α,δ,h,Q',R,S,f,k⟩:=zz0
 refine ⟨π,α,δ,h,_,R,S,f,fun ds h1 α1 H1 vs f1 e1 R1 q1 l1=>?_⟩
 split at f1
 ·rename_i d
  obtain ⟨v,rfl,q3⟩:=q1.inv1
  cases q:seqSrc h1 d with
  |none=>rw [q] at f1;exact f1.elim
  |some Sr =>
   rw [q] at f1
   obtain ⟨a,rfl,ok,⟨hu,sa⟩ | ⟨hu,sa⟩⟩:=seqSrc_ok R1 q3 q
   ·exact ⟨a,rfl,.inl ⟨hu,k ⟨enumD 0 Sr.items,Sr.w⟩ h1 α1 H1 _ f1 e1 R1 (it_enum sa) ok⟩⟩
   ·exact ⟨a,rfl,.inr ⟨hu,k ⟨enumD 0 Sr.items,Sr.w⟩ h1 α1 H1 _ f1 e1 R1 (it_enum sa) ok⟩⟩
 ·exact f1.elim
theorem si_range1{a:Expr}{n:Nat}{fs:DA}{p pos:Pos}(hg:Gl X "range")(hm:X.mg "range" = none)(ha:SA X [a] n fs)(hs:starEach [a] X.env=[(false,eval a X.env)]:=by rfl)(hn:n=1:=by rfl):SI X tg (.Call (.Name "range" p) [a] [] pos) (dIRange fs):=PI.imp (pi_range1 hg hm ha hs) fun σ H Q zz0=>by
 obtain ⟨π,α,δ,h,Q',R,S,f,k⟩:=zz0
 refine ⟨π,α,δ,h,_,R,S,f,fun ds h1 α1 H1 vs f1 e1 R1 q1 l1=>?_⟩
 split at f1
 ·obtain ⟨v,rfl,q3⟩:=q1.inv1
  cases q3 with
  |int=>exact ⟨_,rfl,f1.1.1,f1.1.2,k _ h1 α1 H1 _ f1.2 e1 R1 it_range Src.ok_nil⟩
 ·subst hn;cases l1
 ·exact f1.elim
end
end DL
namespace DL
open PySem PySem.Spec L2
noncomputable def dCB(p:PN)(f:DA):DE:=fun δ h Q=>f δ h fun ds h1=>p ds h1 Q
theorem cb_lift{K:PySem.W.Frag}{p:PN}{n:Nat}{f:DA}{σ:L2.St}{H:Hp}{Q:VK}(g:LE K (dCB p f) σ H Q):LA K n f σ H fun vs H1=>rN K p vs H1 Q:=by
 obtain ⟨π,α,δ,h,Q',R,S,f,k⟩:=g
 exact ⟨π,α,δ,h,_,R,S,f,fun ds h1 α1 H1 vs f1 e1 R1 q1 l1=>⟨π,α1,h1,ds,Q',R1,q1,f1,fun d h' α' H' v a b c d'=>k d h' α' H' v a (e1.trans b) c d'⟩⟩
section
variable {X:Cx} {x:Str} {p pos:Pos} {e:Expr} {es:List Expr} {n:Nat} {f:DA} {id T:String} {r:PN}
theorem se_callB(hc:CallR X (.builtin id) (rN X.K r))(hg:Gl X x)(hm:X.mg x=none)(hv:bootBuiltins x=some (.builtin id))(ha:SA X (e :: es) n f)(hn:x ≠ "__name__":=by decide)(hdb:(x == ("__debug__":Str))=false:=by decide)
  (he:starEach (e :: es) X.env=(false,eval e X.env) :: starEach es X.env:=by rfl) (hpl:(backTo pos (starEach es X.env)).any (·.1)=false:=by rfl):SE X (.Call (.Name x p) (e :: es) [] pos) (dCB r f) :=
 PE.imp (pe_callB hc hg hm hv ha hn hdb he hpl) fun _ _ _ g=>cb_lift g
theorem se_callTy(hc:CallR X (.type T) (rN X.K r))(hg:Gl X x)(hm:X.mg x=none)(hv:bootBuiltins x=some (.type T))(ha:SA X (e :: es) n f)(hn:x ≠ "__name__":=by decide)(hdb:(x == ("__debug__":Str))=false:=by decide)
  (he:starEach (e :: es) X.env=(false,eval e X.env) :: starEach es X.env:=by rfl) (hpl:(backTo pos (starEach es X.env)).any (·.1)=false:=by rfl):SE X (.Call (.Name x p) (e :: es) [] pos) (dCB r f) :=
 PE.imp (pe_callTy hc hg hm hv ha hn hdb he hpl) fun _ _ _ g=>cb_lift g
noncomputable def lenD(h:Hh):D→Option Nat
 |.str x=>if x.length ≤ 16777216 then some x.length else none
 |d=>(seqOf h d).map List.length
noncomputable def pLen:PN:=fun ds h Q=>match ds with | [d]=>(match lenD h d with | some n=>Q (.int n) h | none=>False) | _=>False
theorem ok_len:CallR X (.builtin "len") (rN X.K pLen):=CallR.imp call_len fun xs H Q zz0=>by
 obtain ⟨π,α,h,ds,Q',R,rs,f,k⟩:=zz0
 unfold pLen at f
 split at f
 ·rename_i d
  obtain ⟨v,rfl,rd⟩:=rs.inv1
  cases q:lenD h d with
  |none=>rw [q] at f;exact f.elim
  |some n =>
   rw [q] at f
   refine ⟨v,n,rfl,?_,k _ h α H _ f (Ext.refl ..) R (.int _)⟩
   by_cases z:∃ x,d = .str x
   ·obtain ⟨x,rfl⟩:=z
    cases rd
    have q:(if x.length ≤ 16777216 then some x.length else none)=some n:=q
    split at q
    ·rename_i hl
     cases q
     exact ⟨by rw [sizeLine_eq];exact hl,rfl⟩
    ·cases q
   ·have q':(seqOf h d).map List.length=some n:=by
     cases d with
     |str x=>exact absurd ⟨x,rfl⟩ z
     |_=>exact q
    cases w:seqOf h d with
    |none=>rw [w] at q';cases q'
    |some ys =>
     rw [w] at q'
     cases q'
     obtain ⟨p,us,rfl,b,c⟩:=seqOf_sq R rd w
     rcases b with b | b
     ·exact .inl ⟨us,b,c.length⟩
     ·exact .inr ⟨us,b,c.length⟩
 ·exact f.elim
noncomputable def pTuple:PN:=fun ds h Q=>match ds with | [d]=>(match seqOf h d with | some xs=>Q (.tup xs) h | none=>False) | _=>False
theorem ok_tuple:CallR X (.type "tuple") (rN X.K pTuple):=CallR.imp call_tuple_of fun xs H Q zz0=>by
 obtain ⟨π,α,h,ds,Q',R,rs,f,k⟩:=zz0
 unfold pTuple at f
 split at f
 ·rename_i d
  obtain ⟨v,rfl,rd⟩:=rs.inv1
  cases w:seqOf h d with
  |none=>rw [w] at f;exact f.elim
  |some ys =>
   rw [w] at f
   by_cases z:∃ x,d = .tup x
   ·obtain ⟨x,rfl⟩:=z
    cases w
    cases rd with
    |tup t r=>exact ⟨_,_,rfl,.inr ⟨t.sq,k _ h α H _ f (Ext.refl ..) R (.tup t r)⟩⟩
   ·have w':lsOf h d=some ys:=by
     cases d with
     |tup x=>exact absurd ⟨x,rfl⟩ z
     |lst x=>exact w
     |scr x=>exact w
     |ref x=>exact w
     |_=>cases w
    obtain ⟨p,us,rfl,b,c⟩:=lsOf_sq R rd w'
    refine ⟨p,us,rfl,.inl ⟨b,fun l hl=>?_⟩⟩
    have e2:Ext α H α (upd H l (.tup us)):=Ext.new hl
    exact k _ h α _ _ f e2 (R.new hl) (.tup ⟨R.out hl,R.outP hl,upd_same⟩ (c.mono e2))
 ·exact f.elim
noncomputable def dListOf(f:DA):DN:=fun δ h Q=>f δ h fun ds h1=>match ds with | [d]=>(match seqOf h1 d with | some xs=>Q xs h1 | none=>False) | _=>False
theorem sn_list(hg:Gl X "list")(hm:X.mg "list" = none)(ha:SA X (e :: es) n f)(he:starEach (e :: es) X.env=(false,eval e X.env) :: starEach es X.env:=by rfl)(hpl:(backTo pos (starEach es X.env)).any (·.1)=false:=by rfl) :
  SN X (.Call (.Name "list" p) (e :: es) [] pos) (dListOf f):=PE.imp (pe_callTy call_list_of hg hm PyProof.Rows.boot_list ha (by decide) (by decide) he hpl) fun σ H Q ⟨π,α,δ,h,Q',R,S,f,k⟩=>by
 refine ⟨π,α,δ,h,_,R,S,f,fun ds h1 α1 H1 vs f1 e1 R1 q1 l1=>?_⟩
 split at f1
 ·rename_i d
  obtain ⟨v,rfl,rd⟩:=q1.inv1
  cases w:seqOf h1 d with
  |none=>rw [w] at f1;exact f1.elim
  |some ys =>
   rw [w] at f1
   obtain ⟨p,us,rfl,b,c⟩:=seqOf_sq R1 rd w
   exact ⟨p,us,rfl,b,fun l hl=>LN.last (h:=h) k f1 e1 R1 c hl⟩
 ·exact f1.elim
noncomputable def pInt:PN:=fun ds h Q=>match ds with | [.int i]=>Q (.int i) h | [.bl b]=>Q (.int (if b then 1 else 0)) h | _=>False
theorem ok_int:CallR X (.type "int") (rN X.K pInt):=CallR.imp call_int1 fun xs H Q zz0=>by
 obtain ⟨π,α,h,ds,Q',R,rs,f,k⟩:=zz0
 unfold pInt at f
 split at f
 ·obtain ⟨v,rfl,rd⟩:=rs.inv1
  cases rd
  exact .inl ⟨_,rfl,k _ h α H _ f (Ext.refl ..) R (.int _)⟩
 ·obtain ⟨v,rfl,rd⟩:=rs.inv1
  cases rd
  exact .inr ⟨_,rfl,k _ h α H _ f (Ext.refl ..) R (.int _)⟩
 ·exact f.elim
noncomputable def pMin:PN:=fun ds h Q=>match ds with | [.int i,.int j]=>Q (.int (if j < i then j else i)) h | _=>False
noncomputable def pMax:PN:=fun ds h Q=>match ds with | [.int i,.int j]=>Q (.int (if j > i then j else i)) h | _=>False
noncomputable def pAbs:PN:=fun ds h Q=>match ds with | [.int i]=>Q (.int (if i < 0 then -i else i)) h | _=>False
theorem ok_min(hc:X.calm=true):CallR X (.builtin "min") (rN X.K pMin):=CallR.imp (call_min2 hc) fun xs H Q zz0=>by
 obtain ⟨π,α,h,ds,Q',R,rs,f,k⟩:=zz0
 unfold pMin at f
 split at f
 ·obtain ⟨v,w,rfl,rd,re⟩:=rs.inv2
  cases rd;cases re
  exact ⟨_,_,rfl,k _ h α H _ f (Ext.refl ..) R (.int _)⟩
 ·exact f.elim
noncomputable def pSum:PN:=fun ds h Q=>∃ (d:D) (ns:List Int),ds=[d]∧lsOf h d=some (ns.map D.int)∧Q (.int ns.sum) h
theorem ok_sum(hc:X.calm=true):CallR X (.builtin "sum") (rN X.K pSum):=CallR.imp (call_sum_ints hc) fun xs H Q zz0=>by
 obtain ⟨π,α,h,ds,Q',R,rs,f,k⟩:=zz0
 obtain ⟨d,ns,rfl,w,f⟩:=f
 obtain ⟨v,rfl,rd⟩:=rs.inv1
 obtain ⟨p,us,rfl,b,c⟩:=lsOf_sq R rd w
 cases c.ints_inv
 exact ⟨p,ns,rfl,b,k _ h α H _ f (Ext.refl ..) R (.int _)⟩
end
section
variable {X:Cx} {o e:Expr} {fo fe:DE} {fs:DA} {n:Nat} {apos cpos:Pos}
noncomputable def dBits(fo:DE):DE:=fun δ h Q=>fo δ h fun d h1=>match d with | .int i=>Q (.int (Builtin.Int.intBits i:Nat)) h1 | _=>False
theorem se_bits(ho:SE X o fo)(hbase:attributeBase o "bit_length" X.env (eval o X.env)=eval o X.env:=by rfl)(hline:(apos.endLine == cpos.line)=true:=by rfl):SE X (.Call (.Attribute o "bit_length" apos) [] [] cpos) (dBits fo) :=
 PE.imp (pe_bm0 PySem.F.plainAttrs_int PySem.F.slot_int_bit_length PySem.F.type_int_bit_length mt_bits ho hbase hline) fun σ H Q zz0=>by
  obtain ⟨π,α,δ,h,Q',R,S,f,k⟩:=zz0
  refine ⟨π,α,δ,h,_,R,S,f,fun d h1 α1 H1 v1 f1 e1 R1 q1=>?_⟩
  cases q1 with
  |int i=>exact ⟨rfl,i,rfl,rfl,k _ h1 α1 H1 _ f1 e1 R1 (.int _)⟩
  |_=>exact f1.elim
noncomputable def dAppend(fo:DE)(fs:DA):DE:=fun δ h Q=>fo δ h fun d h1=>match d with
 |.ref i=>(match h1[i]? with
  |some (.lst _)=>fs δ h1 fun ds h2=>(match ds,h2[i]? with
   |[v],some (.lst ys)=>ys.length < 16777216∧Q .non (h2.set i (.lst (ys ++ [v])))
   |_,_=>False)
  |_=>False)
 |_=>False
theorem refL{K:PySem.W.Frag}{π α:List Addr}{H:Hp}{h:Hh}(R:HRel ⟨K,π⟩ α H h){i:Nat}{a:Addr}{xs:List D}(hp:α[i]?=some a)(w:h[i]?=some (.lst xs)):∃ us,H a=some (.lst us)∧RelDs ⟨K,π⟩ α H xs us:=by
 obtain ⟨p,us,e1,e2,e3⟩:=R.lst w
 rw [hp] at e1;cases e1
 exact ⟨us,e2,e3⟩
theorem se_append(ho:SE X o fo)(ha:SA X [e] n fs)(hbase:attributeBase o "append" X.env (eval o X.env)=eval o X.env:=by rfl)
  (hfew:((backTo cpos (starEach [e] X.env)).all (fun x=>!x.1) && (backToKw cpos (keywordEach [] X.env)).all (fun x=>x.1.isSome)
   && decide ([e].length + ([]:List Keyword).length + (if ([]:List Keyword).isEmpty then 0 else 1) < 30))=true:=by rfl)
  (hline:(apos.endLine == cpos.line)=true:=by rfl) (hs:starEach [e] X.env=(false,eval e X.env) :: starEach [] X.env:=by rfl) (hplain:(backTo cpos (starEach [] X.env)).any (·.1)=false:=by rfl) :
  SE X (.Call (.Attribute o "append" apos) [e] [] cpos) (dAppend fo fs) :=
 PE.imp (pe_bm PySem.F.plainAttrs_list PySem.F.slot_list_append PySem.F.type_list_append mt_append ho ha hbase hfew hline hs hplain) fun σ H Q zz0=>by
  obtain ⟨π,α,δ,h,Q',R,S,f,k⟩:=zz0
  refine ⟨π,α,δ,h,_,R,S,f,fun d h1 α1 H1 v1 f1 e1 R1 q1=>?_⟩
  cases q1 with
  |@ref i a hp =>
   dsimp only at f1
   cases w:h1[i]? with
   |none=>rw [w] at f1;exact f1.elim
   |some ob =>
    rw [w] at f1
    cases ob with
    |lst xs =>
     obtain ⟨us,e2,e3⟩:=refL R1 hp w
     refine ⟨.inl ⟨rfl,us,SqL.of e2⟩,π,α1,δ,h1,_,R1,S.mono e1,f1,fun ds h2 α2 H2 vs f2 e2 R2 q2 l2=>?_⟩
     split at f2
     ·rename_i v ys w2
      obtain ⟨u,rfl,q9⟩:=q2.inv1
      have hp2:=e2.get hp
      obtain ⟨us2,g2,g3⟩:=refL R2 hp2 w2
      have e4:Ext α2 H2 α2 (upd H2 a (.lst (us2 ++ [u]))):=Ext.write (List.mem_of_getElem? hp2)
      exact ⟨a,us2,u,rfl,rfl,g2,by rw [← g3.length,sizeLine_eq];exact f2.1,k _ _ α2 _ _ f2.2 (e1.trans (e2.trans e4)) (R2.write hp2 (.lst upd_same ((g3.snoc q9).mono e4))) .non⟩
     ·exact f2.elim
    |_=>exact f1.elim
  |_=>exact f1.elim
noncomputable def dPop(fo:DE):DE:=fun δ h Q=>fo δ h fun d h1=>match d with
 |.ref i=>(match h1[i]? with
  |some (.lst xs)=>(match xs[xs.length - 1]? with | some y=>Q y (h1.set i (.lst xs.dropLast)) | none=>False)
  |_=>False)
 |_=>False
noncomputable def dClear(fo:DE):DE:=fun δ h Q=>fo δ h fun d h1=>match d with
 |.ref i=>(match h1[i]? with | some (.lst _)=>Q .non (h1.set i (.lst [])) | _=>False)
 |_=>False
end
noncomputable abbrev DSp:=List D→Hh→DK→Prop
inductive spD(K:PySem.W.Frag)(n:Nat)(g:DSp)(vs:List V)(H:Hp)(Q:VK)(X9:XK):Prop
 |mk (π:List Addr) (α:List Addr) (h:Hh) (ds:List D) (Q':DK):HRel ⟨K,π⟩ α H h→RelDs ⟨K,π⟩ α H ds vs→ds.length=n→g ds h Q'→(∀ d h' α' H' v,Q' d h'→Ext α H α' H'→HRel ⟨K,π⟩ α' H' h'→RelD ⟨K,π⟩ α' H' d v→Q v H')→spD K n g vs H Q X9
noncomputable def dCal(g:DSp)(f:DA):DE:=fun δ h Q=>f δ h fun ds h1=>g ds h1 Q
section
variable {X:Cx} {k m:Nat} {ps:List Str} {g:DSp} {x:Str} {p pos:Pos} {e:Expr} {es:List Expr} {n:Nat} {f:DA}
theorem se_cal(c:Cal X.prog X.w X.K X.mg X.base k x ps (spD X.K m g))(hr:Room k X.A)(hg:Gl X x)(ha:SA X (e :: es) n f)(hn:n=m:=by rfl)(hdb:(x == ("__debug__":Str))=false:=by decide)
  (he:starEach (e :: es) X.env=(false,eval e X.env) :: starEach es X.env:=by rfl) (hpl:(backTo pos (starEach es X.env)).any (·.1)=false:=by rfl):SE X (.Call (.Name x p) (e :: es) [] pos) (dCal g f) :=
 PE.imp (pe_cal c hr hg ha hdb he hpl) fun σ H Q zz0=>by
  obtain ⟨π,α,δ,h,Q',R,S,f,k⟩:=zz0
  refine ⟨π,α,δ,h,_,R,S,f,fun ds h1 α1 H1 vs f1 e1 R1 q1 l1=>?_⟩
  show spD X.K m g (vs ++ []) H1 Q E0
  rw [List.append_nil]
  exact ⟨π,α1,h1,ds,Q',R1,q1,l1.trans hn,f1,fun d h' α' H' v a b c d'=>k d h' α' H' v a (e1.trans b) c d'⟩
end
noncomputable def runD(n:Nat)(b:DS):DSp:=fun ds h Q=>b { nx:=fun _ h'=>Q .non h',rt:=Q } (ds.map some ++ List.replicate (n - ds.length) none) h
theorem relS_start{K:KP}{α:List Addr}{H:Hp}{ds:List D}{vs:List V}{N:List Str}(r:RelDs K α H ds vs):RelS K α H (ds.map some ++ List.replicate (N.length - ds.length) none) (L2.start N vs):=by
 refine ⟨by unfold L2.start;simp [r.length],fun i d e=>?_⟩
 by_cases hi:i < ds.length
 ·rw [List.getElem?_append_left (by simpa using hi),List.getElem?_map] at e
  cases q:ds[i]? with
  |none=>rw [q] at e;cases e
  |some z =>
   rw [q] at e
   cases e
   obtain ⟨u,h1,h2⟩:=r.get q
   refine ⟨u,?_,h2⟩
   unfold L2.start
   rw [List.getElem?_append_left (by rw [List.length_map,← r.length];exact hi),List.getElem?_map,h1];rfl
 ·rw [List.getElem?_append_right (by simpa using hi),List.getElem?_replicate] at e
  split at e <;> cases e
section
variable {P:Program} {w:World} {K:PySem.W.Frag} {mg:Str→Option Value} {base:Heap}
theorem fn_ok{x qual:Str}{st:Stmt}{f:Addr}{fd:FuncData}{N ps:List Str}{k:Nat}{b:DS}{g:DSp}(F:Fun K x qual st f fd)(S:FnScope N ps (defScope st))
  (hb:∀ (cdv:Value) (A:Around) (outer:List Env) (s:Shared) (H:Hp) (E:XK),Room k (A.deeper (PyProof.Rows.envOfC qual (defScope st) s.heap.objs.size f cdv))→SSs (cxOf CX0 P w K mg base N qual (defScope st) f cdv A outer s H E).nox (defBody st) b)
  (hg:∀ ds h Q,g ds h Q→runD N.length b ds h Q):FnOk P w K mg base CX0 (k + 1) f fd ps (spD K ps.length g):=by
 refine F.ok S (fun vs H Q E h=>?_) fun cdv A outer s H vs Q E hr h=>?_
 ·obtain ⟨π,α,h,ds,Q',R,r,l,_⟩:=h
  rw [← r.length,l]
 ·obtain ⟨π,α,h,ds,Q',R,r,l,q,kk⟩:=h
  refine ⟨_,hb cdv A outer s H E hr,π,α,_,h,{ nx:=fun _ h'=>Q' .non h',rt:=Q' },R,relS_start r,hg ds h Q' q,⟨fun _ h' α' H' σ' a b c _=>kk .non h' α' H' .non a b c .non,fun d h' α' H' v a b c d'=>kk d h' α' H' v a b c d',fun _ _ _ _ _ a _ _ _=>a.elim,fun _ _ _ _ _ a _ _ _=>a.elim,fun _ _ _ _ _ _ _ a _ _ _=>a.elim⟩⟩
end
end DL
namespace DL
open PySem PySem.Spec L2
noncomputable def lsP(h:Hh):D→Option (List D)
 |.lst xs=>some xs
 |.ref i=>match h[i]? with | some (.lst xs)=>some xs | _=>none
 |_=>none
theorem lsP_sq{K:KP}{α:List Addr}{H:Hp}{h:Hh}(R:HRel K α H h){d:D}{v:V}{xs:List D}(r:RelD K α H d v)(e:lsP h d=some xs):∃ p us,v = .ref p∧H p=some (.lst us)∧RelDs K α H xs us:=by
 cases r with
 |lst t r=>cases e;exact ⟨_,_,rfl,t.2.2,r⟩
 |@ref i a hp =>
  have e:(match h[i]? with | some (.lst xs)=>some xs | _=>none)=some xs:=e
  cases q:h[i]? with
  |none=>rw [q] at e;cases e
  |some o =>
   rw [q] at e
   cases o with
   |lst ys =>
    cases e
    obtain ⟨p,us,e1,e2,e3⟩:=R.lst q
    rw [hp] at e1;cases e1
    exact ⟨_,us,rfl,e2,e3⟩
   |_=>cases e
 |_=>cases e
noncomputable def pPlus:P2:=fun x y h Q=>match lsP h x,lsP h y with
 |some xs,some ys=>xs.length + ys.length ≤ 16777216∧Q (.lst (xs ++ ys)) h
 |_,_=>pAdd x y h Q
section
variable {X:Cx}
theorem ok_plus:OpR X (binaryOp .Add) (r2 X.K pPlus):=OpR.imp (op_cat.or ok_add) fun x y H Q zz0=>by
 obtain ⟨π,α,h,d,e,Q',R,r1,r2,f,k⟩:=zz0
 unfold pPlus at f
 cases w:lsP h d with
 |none=>rw [w] at f;exact .inr ⟨π,α,h,d,e,Q',R,r1,r2,f,k⟩
 |some xs =>
  cases w':lsP h e with
  |none=>rw [w,w'] at f;exact .inr ⟨π,α,h,d,e,Q',R,r1,r2,f,k⟩
  |some ys =>
   rw [w,w'] at f
   obtain ⟨p,us,rfl,b,c⟩:=lsP_sq R r1 w
   obtain ⟨p',us',rfl,b',c'⟩:=lsP_sq R r2 w'
   refine .inl ⟨p,p',us,us',rfl,rfl,b,b',by rw [← c.length,← c'.length,sizeLine_eq];exact f.1,fun l hl=>?_⟩
   have e2:Ext α H α (upd H l (.lst (us ++ us'))):=Ext.new hl
   exact k _ h α _ _ f.2 e2 (R.new hl) (.lst ⟨R.out hl,R.outP hl,upd_same⟩ ((c.append c').mono e2))
noncomputable def dCatN(fa fb:DE):DN:=fun δ h Q=>fa δ h fun x h1=>fb δ h1 fun y h2=>match lsP h2 x,lsP h2 y with
 |some xs,some ys=>xs.length + ys.length ≤ 16777216∧Q (xs ++ ys) h2
 |_,_=>False
noncomputable def dRepN(fa fb:DE):DN:=fun δ h Q=>fa δ h fun x h1=>fb δ h1 fun y h2=>match lsP h2 x,y with
 |some xs,.int n=>(-(2 ^ 63) ≤ n∧n < 2 ^ 63∧xs.length * n.toNat ≤ 16777216)∧Q (List.replicate n.toNat xs).flatten h2
 |_,_=>False
theorem op_mulB:OpR X (binaryOp .Mult) (rI IntMulOk fun i j=>.int (i * j)):=opI fun _ _ _ _ _ _ _ hc q=>PyProof.Rows.mul_int q hc
noncomputable def pMulI:P2:=pI IntMulOk fun i j=>i * j
theorem ok_timesI:OpR X (binaryOp .Mult) (r2 X.K pMulI):=pI_ok op_mulB
noncomputable def pMul:P2:=fun x y h Q=>match x,y with
 |.int i,.int j=>IntMulOk i j∧Q (.int (i * j)) h
 |.tup xs,.int n=>(xs ≠ []∧xs.length ≤ 10∧1 ≤ n∧n < 100)∧Q (.tup (List.replicate n.toNat xs).flatten) h
 |x,.int n=>(match lsP h x with | some xs=>(-(2 ^ 63) ≤ n∧n < 2 ^ 63∧xs.length * n.toNat ≤ 16777216)∧Q (.lst (List.replicate n.toNat xs).flatten) h | none=>False)
 |_,_=>False
noncomputable def dSl(fe:DE)(fl fh:DO):DE:=fun δ h Q=>fe δ h fun d h1=>fl δ h1 fun l h2=>fh δ h2 fun u h3=>match d with
 |.tup xs=>Q (.tup (cutD xs l u)) h3
 |d=>match lsOf h3 d with | some xs=>Q (.lst (cutD xs l u)) h3 | none=>False
theorem se_sl{e:Expr}{fe:DE}{lo hi:Option Expr}{fl fh:DO}{pos p2:Pos}(he:SE X e fe)(hl:SO X lo fl)(hu:SO X hi fh):SE X (.Subscript e (.Slice lo hi none p2) pos) (dSl fe fl fh):=PE.imp (pe_slice (sl_tupD.or sl_list) he hl hu) fun σ H Q zz0=>by
 obtain ⟨π,α,δ,h,Q',R,S,f,k⟩:=zz0
 refine ⟨π,α,δ,h,_,R,S,f,fun d h1 α1 H1 v1 f1 e1 R1 q1=>?_⟩
 refine ⟨π,α1,δ,h1,_,R1,S.mono e1,f1,fun l h2 α2 H2 f2 e2 R2=>?_⟩
 refine ⟨π,α2,δ,h2,_,R2,S.mono (e1.trans e2),f2,fun u h3 α3 H3 f3 e3 R3=>?_⟩
 have q3:=(q1.mono e2).mono e3
 split at f3
 ·cases q3 with
  |@tup a us ds t r =>
   refine .inl ⟨a,us,rfl,t.sq,fun z=>?_,fun p hp=>?_⟩
   ·have c:=cut_rel r l u
    rw [z] at c
    exact k _ h3 α3 H3 _ f3 (e1.trans (e2.trans e3)) R3 (.tup t c)
   ·have e4:Ext α3 H3 α3 (upd H3 p (.tup (cutV us l u))):=Ext.new hp
    exact k _ h3 α3 _ _ f3 (e1.trans (e2.trans (e3.trans e4))) (R3.new hp) (.tup ⟨R3.out hp,R3.outP hp,upd_same⟩ ((cut_rel r l u).mono e4))
 ·split at f3
  ·rename_i xs w
   obtain ⟨p,us,rfl,b,c⟩:=lsOf_sq R3 q3 w
   refine .inr ⟨p,us,rfl,b,fun l' hl=>?_⟩
   have e4:Ext α3 H3 α3 (upd H3 l' (.lst (cutV us l u))):=Ext.new hl
   exact k _ h3 α3 _ _ f3 (e1.trans (e2.trans (e3.trans e4))) (R3.new hl) (.lst ⟨R3.out hl,R3.outP hl,upd_same⟩ ((cut_rel c l u).mono e4))
  ·exact f3.elim
noncomputable def dExtend(fo:DE)(fs:DA):DE:=fun δ h Q=>fo δ h fun d h1=>match d with
 |.ref i=>(match h1[i]? with
  |some (.lst _)=>fs δ h1 fun ds h2=>(match ds,h2[i]? with
   |[v],some (.lst ys)=>(match lsP h2 v with | some zs=>ys.length + zs.length ≤ 16777216∧Q .non (h2.set i (.lst (ys ++ zs))) | none=>False)
   |_,_=>False)
  |_=>False)
 |_=>False
theorem se_extend{o e:Expr}{fo:DE}{fs:DA}{n:Nat}{apos cpos:Pos}(ho:SE X o fo)(ha:SA X [e] n fs)(hbase:attributeBase o "extend" X.env (eval o X.env)=eval o X.env:=by rfl)
  (hfew:((backTo cpos (starEach [e] X.env)).all (fun x=>!x.1) && (backToKw cpos (keywordEach [] X.env)).all (fun x=>x.1.isSome)
   && decide ([e].length + ([]:List Keyword).length + (if ([]:List Keyword).isEmpty then 0 else 1) < 30))=true:=by rfl)
  (hline:(apos.endLine == cpos.line)=true:=by rfl) (hs:starEach [e] X.env=(false,eval e X.env) :: starEach [] X.env:=by rfl) (hplain:(backTo cpos (starEach [] X.env)).any (·.1)=false:=by rfl) :
  SE X (.Call (.Attribute o "extend" apos) [e] [] cpos) (dExtend fo fs) :=
 PE.imp (pe_bm PySem.F.plainAttrs_list PySem.F.slot_list_extend PySem.F.type_list_extend mt_extend ho ha hbase hfew hline hs hplain) fun σ H Q zz0=>by
  obtain ⟨π,α,δ,h,Q',R,S,f,k⟩:=zz0
  refine ⟨π,α,δ,h,_,R,S,f,fun d h1 α1 H1 v1 f1 e1 R1 q1=>?_⟩
  cases q1 with
  |@ref i a hp =>
   dsimp only at f1
   cases w:h1[i]? with
   |none=>rw [w] at f1;exact f1.elim
   |some ob =>
    rw [w] at f1
    cases ob with
    |lst xs =>
     obtain ⟨us,e2,e3⟩:=refL R1 hp w
     refine ⟨.inl ⟨rfl,us,SqL.of e2⟩,π,α1,δ,h1,_,R1,S.mono e1,f1,fun ds h2 α2 H2 vs f2 e2 R2 q2 l2=>?_⟩
     split at f2
     ·rename_i v ys w2
      obtain ⟨u,rfl,q9⟩:=q2.inv1
      split at f2
      ·rename_i zs w3
       have hp2:=e2.get hp
       obtain ⟨us2,g2,g3⟩:=refL R2 hp2 w2
       obtain ⟨b,us3,rfl,g4,g5⟩:=lsP_sq R2 q9 w3
       have e4:Ext α2 H2 α2 (upd H2 a (.lst (us2 ++ us3))):=Ext.write (List.mem_of_getElem? hp2)
       exact ⟨a,b,us2,us3,rfl,rfl,g2,g4,by rw [← g3.length,← g5.length,sizeLine_eq];exact f2.1,k _ _ α2 _ _ f2.2 (e1.trans (e2.trans e4)) (R2.write hp2 (.lst upd_same ((g3.append g5).mono e4))) .non⟩
      ·exact f2.elim
     ·exact f2.elim
    |_=>exact f1.elim
  |_=>exact f1.elim
noncomputable def kindD(h:Hh):D→Option String
 |.non=>some "NoneType"
 |.bl _=>some "bool"
 |.int _=>some "int"
 |.str _=>some "str"
 |.tup _=>some "tuple"
 |.lst _=>some "list"
 |.ref i=>match h[i]? with | some (.lst _)=>some "list" | some (.dT none _)=>some "dict" | some (.dK _)=>some "dict" | _=>none
 |_=>none
noncomputable def isKind(t T:String):Bool:=t == T || (t == "bool" && T == "int")
theorem kit_of{K:PySem.W.Frag}{t T:String}(ht:t ∈ ["NoneType","bool","int","str","tuple","list","dict"])(hT:T ∈ ["bool","int","str","tuple","list","dict"]):PySem.W.kitOne K (.type t) (.type T)=some (isKind t T):=by
 simp only [List.mem_cons,List.not_mem_nil,or_false] at ht hT
 rcases ht with rfl | rfl | rfl | rfl | rfl | rfl | rfl <;> rcases hT with rfl | rfl | rfl | rfl | rfl | rfl <;> rfl
noncomputable def dIsinst(T:String)(fa:DE):DE:=fun δ h Q=>fa δ h fun d h1=>match kindD h1 d with | some t=>Q (.bl (isKind t T)) h1 | none=>False
theorem kind_in{h:Hh}{d:D}{t:String}(e:kindD h d=some t):t ∈ ["NoneType","bool","int","str","tuple","list","dict"]:=by
 unfold kindD at e
 split at e
 all_goals first | (cases e;done) | (cases e;decide) | skip
 split at e
 all_goals first | (cases e;done) | (cases e;decide)
theorem call_isinstD{T:String}:CallR X (.builtin "isinstance") (fun xs H Q=>∃ x t b,xs=[x,.ty T]∧(TyOf X.K H x t∨(t = .type "tuple"∧∃ a us,x = .ref a∧SqT X.K H a us))∧PySem.W.kitOne X.K t (.type T)=some b∧Q (.bl b) H):=by
 intro pins s σ H xs us Q I r h
 obtain ⟨x,t,b,rfl,ty,e,q⟩:=h
 obtain ⟨u,w',rfl,ru,rw'⟩:=vals2 r
 cases rw'
 rcases ty with ty | ⟨rfl,a,us,rfl,hq⟩
 ·exact isinst_ok I ru ty e fun tk=>⟨.bl b,H,I.tok _,rfl,q⟩
 ·cases ru
  obtain ⟨its,rv,⟨o,h1,h2,_⟩,_⟩:=I.tuple hq
  exact PySem.W.kia_one PySem.W.kitx_tuple I.kIn ⟨o,h1,h2⟩ e (fun z=>nomatch z) fun tk=>⟨.bl b,H,I.tok _,rfl,q⟩
theorem kind_ty{K:PySem.W.Frag}{π α:List Addr}{H:Hp}{h:Hh}{d:D}{v:V}{t:String}(R:HRel ⟨K,π⟩ α H h)(r:RelD ⟨K,π⟩ α H d v)(e:kindD h d=some t):TyOf K H v (.type t)∨(Value.type t = .type "tuple"∧∃ a us,v = .ref a∧SqT K H a us):=by
 cases r with
 |non=>cases e;exact .inl .non
 |bl b=>cases e;exact .inl (.bl b)
 |int i=>cases e;exact .inl (.int i)
 |str x=>cases e;exact .inl (.str x)
 |tup t r=>cases e;exact .inr ⟨rfl,_,_,rfl,t.sq⟩
 |lst t r=>cases e;exact .inl (.lst t.2.2)
 |scr t r=>cases e
 |exc _ _ _=>cases e
 |@ref i a hp =>
  have e:(match h[i]? with | some (.lst _)=>some "list" | some (.dT none _)=>some "dict" | some (.dK _)=>some "dict" | _=>none)=some t:=e
  cases q:h[i]? with
  |none=>rw [q] at e;cases e
  |some o =>
   rw [q] at e
   cases o with
   |lst ys =>
    cases e
    obtain ⟨us,e2,e3⟩:=refL R hp q
    exact .inl (.lst e2)
   |dT z ys =>
    cases z with
    |none =>
     cases e
     obtain ⟨p,us,e1,e2,e3⟩:=R.dT q
     rw [hp] at e1;cases e1
     exact .inl (.dT e2)
    |some o=>cases e
   |dK ys =>
    cases e
    obtain ⟨p,us,e1,e2,e3⟩:=R.dK q
    rw [hp] at e1;cases e1
    exact .inl (.dK e2)
   |ins C fs=>cases e
theorem se_isinst{T:String}{a:Expr}{fa:DE}{x:Str}{p p2 pos:Pos}(hT:T ∈ ["bool","int","str","tuple","list","dict"])(hg:Gl X "isinstance")(hm:X.mg "isinstance" = none)(ha:SE X a fa)(ht:PE X (.Name x p2) (tC (.ty T)))
  (he:starEach [a,.Name x p2] X.env=(false,eval a X.env) :: starEach [.Name x p2] X.env:=by rfl) (he2:starEach [.Name x p2] X.env=(false,eval (.Name x p2) X.env) :: starEach [] X.env:=by rfl) (hpl:(backTo pos (starEach [.Name x p2] X.env)).any (·.1)=false:=by rfl) :
  SE X (.Call (.Name "isinstance" p) [a,.Name x p2] [] pos) (dIsinst T fa):=PE.imp (pe_callB call_isinstD hg hm PyProof.Rows.boot_isinstance (pa_cons ha (pa_cons ht pa_nil he2) he) (by decide) (by decide) he hpl) fun σ H Q ⟨π,α,δ,h,Q',R,S,f,k⟩=>by
 refine ⟨π,α,δ,h,_,R,S,f,fun d h1 α1 H1 v1 f1 e1 R1 q1=>?_⟩
 split at f1
 ·rename_i t w
  exact ⟨v1,.type t,_,rfl,kind_ty R1 q1 w,kit_of (kind_in w) hT,k _ h1 α1 H1 _ f1 e1 R1 (.bl _)⟩
 ·exact f1.elim
noncomputable def flatD:D→Bool
 |.non=>true
 |.bl _=>true
 |.int _=>true
 |.str _=>true
 |_=>false
noncomputable def eqF:D→D→Bool
 |.non,.non=>true
 |.bl a,.bl b=>a == b
 |.bl a,.int b=>(if a then 1 else 0) == b
 |.int a,.bl b=>a == (if b then 1 else 0)
 |.int a,.int b=>a == b
 |.str a,.str b=>a == b
 |_,_=>false
noncomputable def inF(x:D)(xs:List D):Bool:=xs.any fun y=>eqF y x
theorem flat_rel{K:KP}{α:List Addr}{H:Hp}{d:D}{v:V}(r:RelD K α H d v):flatV v=flatD d:=by cases r <;> rfl
theorem flats_rel{K:KP}{α:List Addr}{H:Hp}:∀ {ds:List D} {vs:List V},RelDs K α H ds vs→vs.all flatV=ds.all flatD
 |_,_,.nil=>rfl
 |_,_,.cons r t=>by rw [List.all_cons,List.all_cons,flat_rel r,flats_rel t]
theorem eqF_rel{K:KP}{α:List Addr}{H:Hp}{d e:D}{v u:V}(r:RelD K α H d v)(s:RelD K α H e u):eqV v u=eqF d e:=by
 cases r <;> cases s <;> rfl
theorem inF_rel{K:KP}{α:List Addr}{H:Hp}{d:D}{v:V}(r:RelD K α H d v):∀ {ds:List D} {vs:List V},RelDs K α H ds vs→inV v vs=inF d ds
 |_,_,.nil=>rfl
 |_,_,.cons s t=>by
  have:=inF_rel r t
  unfold inV inF at this ⊢
  rw [List.any_cons,List.any_cons,this,eqF_rel s r]
noncomputable def pIn(neg:Bool):P2:=fun x y h Q=>match seqOf h y with
 |some xs=>(flatD x && xs.all flatD)=true∧Q (.bl (if neg then !inF x xs else inF x xs)) h
 |none=>False
theorem pIn_r{neg:Bool}{x y:V}{H:Hp}{Q:VK}(g:r2 X.K (pIn neg) x y H Q):rIn X.K neg x y H Q:=by
 obtain ⟨π,α,h,d,e,Q',R,r1,r2,f,k⟩:=g
 unfold pIn at f
 split at f
 ·rename_i xs w
  obtain ⟨p,us,rfl,b,c⟩:=seqOf_sq R r2 w
  obtain ⟨f1,f2⟩:=f
  rw [Bool.and_eq_true] at f1
  refine ⟨p,us,rfl,b,by rw [flat_rel r1];exact f1.1,by rw [flats_rel c];exact f1.2,k _ h α H _ f2 (Ext.refl ..) R ?_⟩
  rw [inF_rel r1 c];exact .bl _
 ·exact f.elim
theorem ok_in:OpR X (compareOp .In) (r2 X.K (pIn false)):=OpR.imp op_in_seq fun _ _ _ _ g=>pIn_r g
end
end DL
namespace DL
open PySem PySem.Spec L2
section
variable {X:Cx}
noncomputable def intsOf:List D→Option (List Int)
 |[]=>some []
 |.int i :: r=>(intsOf r).map (i :: ·)
 |_ :: _=>none
noncomputable def pLt:P2:=fun x y h Q=>match x,y with
 |.int i,.int j=>Q (.bl (decide (i < j))) h
 |.tup a,.tup b=>(match intsOf a,intsOf b with | some ns,some ms=>Q (.bl (HT.lexLt ns ms)) h | _,_=>False)
 |.str a,.str b=>Q (.bl (decide (a.cps.toList < b.cps.toList))) h
 |_,_=>False
noncomputable def keyS:D→Option Key
 |.int i=>some (.inl i)
 |.str x=>some (.inr x)
 |_=>none
noncomputable def lkG(kvs:List (Key×Int))(k:Key):Option Int:=(kvs.find? fun kv=>decide (kv.1=k)).map (·.2)
noncomputable def dGet(kvs:List (Key×Int))(fi:DE):DE:=fun δ h Q=>fi δ h fun d h1=>match (keyS d).bind fun k=>lkG kvs k with | some v=>Q (.int v) h1 | none=>False
theorem key_rel{K:KP}{α:List Addr}{H:Hp}{d:D}{v:V}{k:Key}(r:RelD K α H d v)(e:keyS d=some k):v=kV k:=by
 cases r <;> cases e <;> rfl
theorem valV_lookup(kvs:List (Key×Int))(k:Key):valV (kvs.map fun p=>(p.1,V.int p.2)) k=(lkG kvs k).map V.int:=by
 unfold valV lkG
 rw [List.find?_map]
 rw [Option.map_map,Option.map_map]
 rfl
theorem se_gget{x:Str}{kvs:List (Key×Int)}{i:Expr}{fi:DE}{p pos:Pos}(hg:Gl X x)(hk:∃ a,X.mg x=some (.ref a)∧KDict X.prog X.w X.K a (kvs.map fun p=>(p.1,V.int p.2)))(hi:SE X i fi)(hs:NoSl i)(hd:(x == ("__debug__":Str))=false:=by decide) :
  SE X (.Subscript (.Name x p) i pos) (dGet kvs fi):=let ⟨_,hm,hk⟩:=hk;PE.imp (pe_gget hg hm hk hi hs hd) fun σ H Q ⟨π,α,δ,h,Q',R,S,f,k⟩=>by
 refine ⟨π,α,δ,h,_,R,S,f,fun d h1 α1 H1 v1 f1 e1 R1 q1=>?_⟩
 cases w:keyS d with
 |none=>rw [w] at f1;exact f1.elim
 |some kk =>
  rw [w] at f1
  have f1:(match lkG kvs kk with | some v=>Q' (.int v) h1 | none=>False):=f1
  cases w2:lkG kvs kk with
  |none=>rw [w2] at f1;exact f1.elim
  |some v =>
   rw [w2] at f1
   exact ⟨kk,.int v,key_rel q1 w,by rw [valV_lookup,w2];rfl,k _ h1 α1 H1 _ f1 e1 R1 (.int _)⟩
noncomputable def dIEnum1(f:DA):DI:=fun δ h Q=>f δ h fun ds h1=>match ds with | [d]=>(match d with | .tup _=>False | d=>match seqSrc h1 d with | some S=>Q ⟨enumD 1 S.items,S.w⟩ h1 | none=>False) | _=>False
end
end DL
namespace Att
open PySem PySem.W PySem.Calls PyProof.Rows
theorem bits_weight:∀ (ns:List Int) (x:Int),x ∈ ns→Builtin.Int.intBits x ≤ WData.weightAll (ns.map WData.int)
 |n :: r,x,h=>by
  rw [List.map_cons]
  show _ ≤ WData.weight (.int n) + 1 + WData.weightAll (r.map WData.int)
  rcases List.mem_cons.mp h with rfl | h
  ·have e:WData.weight (.int x)=Builtin.Int.intBits x:=rfl
   rw [e];omega
  ·have:=bits_weight r x h
   omega
theorem bits_args{ns:List Int}(h:WData.layableAll [WData.list (ns.map WData.int)]=true):∀ x ∈ ns,Builtin.Int.intBits x ≤ 1048576:=fun x hx=>by
 have h:(WData.layable (.list (ns.map WData.int)) && true)=true:=h
 rw [Bool.and_true] at h
 unfold WData.layable at h
 rw [Bool.and_eq_true] at h
 have h2:WData.weight (.list (ns.map WData.int)) ≤ 2 ^ 20:=of_decide_eq_true h.2
 exact Nat.le_trans (bits_weight ns x hx) h2
theorem attach_call2{l:OpenLaw}{n:Nat}{q:Program}{loose:List Str}{XP:(Str→Option Value)→Heap→Prop}{YP:World→Heap→Prop}{d:DefRec}
  (hn:l.most=some n) (hdf:d.params.defaults=[])
  (call:∀ (w:World) (s₀ s₁:Shared) (mg mb:Str→Option Value) (fa:Addr) (o:Obj) (pm cd doc:Value) (a:Addr) (vs:List Value) (ns:List Int),
   Ground q loose [] XP w s₀ mg mb s₁.heap→YP w s₁.heap →
   s₁.heap.get? fa=some o→o.data = .func (docDef d.name d.params d.body d.scope pm cd doc)→s₁.heap.CodeRec cd d.name→mg d.name=some (.ref fa) →
   s₁.heap.get? a=some { cls:=.type "list",data:=.seq vs.toArray }→IntsAre vs ns→ns.length ≤ n→(∀ x ∈ ns,Builtin.Int.intBits x ≤ 1048576)→s₁.gens = #[] →
   codeAny (model l.prog w) callerA (.call (.ref fa) ⟨[.ref a],[]⟩) (fun r s'=>r = .ok (.ret (.bool true))∧OldK s₁.heap s'.heap∧s'.os=s₁.os∧AllBare s'.gens) s₁) :
  WalkO q loose XP YP l.row.toRowW d [] (fun f vs=>PySem.call f vs):=by
 intro w s₀ s₁ mg mb G Y fa o pm cd doc dV kV ho hd hcd hD hmg hg args vals as hpre hlay hrd hwl hlo
 obtain rfl:dV = .none:=Dflts.none hD hdf
 obtain rfl:kV = .none:=Dflts.noKw hD
 obtain ⟨a,vs,ns,rfl,rfl,hobj,hints,hlen⟩:=script_of hn hpre hwl
 refine enter_call (codeAny_mono (call w s₀ s₁ mg mb fa o pm cd doc a vs ns G Y ho (fd_plain hd) hcd hmg hobj hints hlen (bits_args hlay) hg) fun r s' hq=>?_)
 obtain ⟨rfl,h2,h3,h4⟩:=hq
 exact ⟨.inl ⟨.bool true,.bool true,[],rfl,fun _=>rfl,.bool true,post_true l _,fun _=>⟨List.Pairwise.nil,fun _ hm=>(nomatch hm)⟩⟩,h2,h3,h4⟩
end Att
namespace DL
open PySem PySem.Spec L2 PySem.W PyProof.Rows
theorem walkD{l:OpenLaw}{n k:Nat}{q:Program}{loose:List Str}{XP:(Str→Option Value)→Heap→Prop}{YP:World→Heap→Prop}{d:DefRec}{K:Params→PySem.W.Frag}{S:DSp}{x:Str}
  (hn:l.most=some n) (hn2:n ≤ sizeLine) (hdf:d.params.defaults=[]) (hr:Room k callerA)
  (hY:∀ (w:World) (h:Heap),YP w h→(K w.params).In h)
  (F:∀ (w:World) (mg:Str→Option Value) (fa:Addr) (h:Heap),(K w.params).In h→h.Ns mainGlobals mg→mg d.name=some (.ref fa) →
   ∃ fd:FuncData,(∀ (s:Shared) (u:Value),BindsTo s fd ⟨[u],[]⟩ [(x,u)]) ∧
    ∀ base:Heap,(K w.params).In base→base.Ns mainGlobals mg→FnOk l.prog w (K w.params) mg base CX0 k fa fd [x] (spD (K w.params) 1 S))
  (hS:∀ ns:List Int,ns.length ≤ n→(∀ x ∈ ns,Builtin.Int.intBits x ≤ 1048576)→S [.scr (ns.map D.int)] [] (fun v _=>v = .bl true)) :
  WalkO q loose XP YP l.row.toRowW d [] (fun f vs=>PySem.call f vs):=by
 refine Att.attach_call2 hn hdf fun w s₀ s₁ mg mb fa o pm cd doc a vs ns G Y ho hd hcd hmg hobj hints hlen hbits hg=>?_
 have KX:=hY w _ Y
 obtain ⟨fd,hb,hF⟩:=F w mg fa _ KX G.T.g hmg
 refine L2.law_call KX G.T.g G.T.b G.T.builtins G.T.nolimit hg hobj hints (Nat.le_trans hlen hn2) hr hF hb (fun H hO hS'=>?_) fun H e s' z=>z
 refine ⟨[],[],[],[.scr (ns.map D.int)],_,⟨rfl,List.nodup_nil,fun p hp=>(nomatch hp),fun i o e=>?_⟩,.cons (.scr (a:=a) (us:=ns.map V.int) ?_ (RelDs.ints ns)) .nil,rfl,hS ns hlen hbits,fun d h' α' H' v a b c r=>?_⟩
 ·simp at e
 ·rcases hS' with h | h
  ·exact .inl ⟨fun z=>(nomatch z),fun z=>(nomatch z),h⟩
  ·exact .inr h
 ·have a:d = .bl true:=a
  subst a
  cases r;rfl
end DL
namespace DL
open PySem PySem.Spec L2
mutual
noncomputable def nrD:D→Bool
 |.tup xs=>nrDs xs
 |.lst xs=>nrDs xs
 |.scr xs=>nrDs xs
 |.ref _=>false
 |_=>true
noncomputable def nrDs:List D→Bool
 |[]=>true
 |d :: ds=>nrD d && nrDs ds
end
noncomputable def nrO:O→Bool
 |.lst xs=>nrDs xs
 |.dT _ kvs=>nrDs (kvs.map (·.2))
 |.dK kvs=>nrDs (kvs.map (·.2))
 |.ins _ fs=>nrDs (fs.map (·.2))
mutual
inductive Vw(n:Nat)(h:Hh):D→D→Prop
 |nr {d:D}:nrD d=true→Vw n h d d
 |old {i:Nat}:i < n→Vw n h (.ref i) (.ref i)
 |opn {i:Nat} {xs ys:List D}:n ≤ i→h[i]?=some (.lst xs)→Vws n h xs ys→Vw n h (.ref i) (.lst ys)
 |tup {xs ys:List D}:Vws n h xs ys→Vw n h (.tup xs) (.tup ys)
 |lst {xs ys:List D}:Vws n h xs ys→Vw n h (.lst xs) (.lst ys)
inductive Vws(n:Nat)(h:Hh):List D→List D→Prop
 |nil:Vws n h [] []
 |cons {d e:D} {ds es:List D}:Vw n h d e→Vws n h ds es→Vws n h (d :: ds) (e :: es)
end
section
variable {K:PySem.W.Frag} {π α β:List Addr} {H H':Hp} {h:Hh}
theorem VT.less{a:Addr}{us:List V}(t:VT ⟨K,π⟩ (α ++ β) H a us):VT ⟨K,π⟩ α H a us:=⟨fun z=>t.1 (List.mem_append_left _ z),t.2⟩
theorem VS.less{a:Addr}{us:List V}(t:VS ⟨K,π⟩ (α ++ β) H a us):VS ⟨K,π⟩ α H a us:=by
 rcases t with ⟨n,m,t⟩ | t
 ·exact .inl ⟨fun z=>n (List.mem_append_left _ z),m,t⟩
 ·exact .inr t
theorem VL.less{a:Addr}{us:List V}(t:VL ⟨K,π⟩ (α ++ β) H a us):VL ⟨K,π⟩ α H a us:=⟨fun z=>t.1 (List.mem_append_left _ z),t.2⟩
theorem VE.less{a:Addr}{u:HO}(t:VE ⟨K,π⟩ (α ++ β) H a u):VE ⟨K,π⟩ α H a u:=⟨fun z=>t.1 (List.mem_append_left _ z),t.2⟩
theorem nrDs_and{x:D}{r:List D}(e:nrDs (x :: r)=true):nrD x=true∧nrDs r=true:=by
 have e:(nrD _ && nrDs _)=true:=e
 rw [Bool.and_eq_true] at e
 exact e
theorem RelD.nr{d:D}{v:V}(e:nrD d=true)(r:RelD ⟨K,π⟩ (α ++ β) H d v):RelD ⟨K,π⟩ α H d v :=
 RelD.rec (motive_1:=fun d v _=>nrD d=true→RelD ⟨K,π⟩ α H d v) (motive_2:=fun ds us _=>nrDs ds=true→RelDs ⟨K,π⟩ α H ds us) (fun _=>.non) (fun b _=>.bl b) (fun i _=>.int i) (fun x _=>.str x) (fun t _ h e=>.tup t.less (h e)) (fun t _ h e=>.lst t.less (h e)) (fun t _ h e=>.scr t.less (h e)) (fun _ e=>nomatch e) (fun n t r _=>.exc n t.less (r.map fun _ _ z=>z.less)) (fun _=>.nil) (fun _ _ h t e=>.cons (h (nrDs_and e).1) (t (nrDs_and e).2)) r e
theorem RelDs.nr{ds:List D}{vs:List V}(e:nrDs ds=true)(r:RelDs ⟨K,π⟩ (α ++ β) H ds vs):RelDs ⟨K,π⟩ α H ds vs:=by
 induction ds generalizing vs with
 |nil=>cases r;exact .nil
 |cons d ds ih=>cases r with | cons h t=>exact .cons (h.nr (nrDs_and e).1) (ih (nrDs_and e).2 t)
mutual
noncomputable def rfD(n:Nat):D→Bool
 |.tup xs=>rfDs n xs
 |.lst xs=>rfDs n xs
 |.scr xs=>rfDs n xs
 |.ref i=>decide (i < n)
 |_=>true
noncomputable def rfDs(n:Nat):List D→Bool
 |[]=>true
 |x :: r=>rfD n x && rfDs n r
end
theorem RelD.rf{d:D}{v:V}(r:RelD ⟨K,π⟩ α H d v):rfD α.length d=true :=
 RelD.rec (motive_1:=fun d _ _=>rfD α.length d=true) (motive_2:=fun ds _ _=>rfDs α.length ds=true) rfl (fun _=>rfl) (fun _=>rfl) (fun _=>rfl) (fun _ _ h=>h) (fun _ _ h=>h) (fun _ _ h=>h) (fun h=>decide_eq_true (List.getElem?_eq_some_iff.mp h).1) (fun _ _ _=>rfl) rfl (fun _ _ h t=>Bool.and_eq_true_iff.mpr ⟨h,t⟩) r
theorem RelDs.rf{ds:List D}{vs:List V}(r:RelDs ⟨K,π⟩ α H ds vs):rfDs α.length ds=true:=by
 induction ds generalizing vs with
 |nil=>rfl
 |cons d ds ih=>cases r with | cons h t=>exact Bool.and_eq_true_iff.mpr ⟨h.rf,ih t⟩
theorem RelD.old2{d:D}{v:V}(e:rfD α.length d=true)(r:RelD ⟨K,π⟩ (α ++ β) H d v):RelD ⟨K,π⟩ α H d v :=
 RelD.rec (motive_1:=fun d v _=>rfD α.length d=true→RelD ⟨K,π⟩ α H d v) (motive_2:=fun ds us _=>rfDs α.length ds=true→RelDs ⟨K,π⟩ α H ds us) (fun _=>.non) (fun b _=>.bl b) (fun i _=>.int i) (fun x _=>.str x) (fun t _ h e=>.tup t.less (h e)) (fun t _ h e=>.lst t.less (h e)) (fun t _ h e=>.scr t.less (h e)) (fun h1 e=>.ref (by rw [List.getElem?_append_left (of_decide_eq_true e)] at h1;exact h1)) (fun n t r _=>.exc n t.less (r.map fun _ _ z=>z.less)) (fun _=>.nil) (fun _ _ h t e=>.cons (h (Bool.and_eq_true_iff.mp e).1) (t (Bool.and_eq_true_iff.mp e).2)) r e
theorem RelDs.old2{ds:List D}{vs:List V}(e:rfDs α.length ds=true)(r:RelDs ⟨K,π⟩ (α ++ β) H ds vs):RelDs ⟨K,π⟩ α H ds vs:=by
 induction ds generalizing vs with
 |nil=>cases r;exact .nil
 |cons d ds ih=>cases r with | cons h t=>exact .cons (h.old2 (Bool.and_eq_true_iff.mp e).1) (ih (Bool.and_eq_true_iff.mp e).2 t)
theorem RelD.old{d:D}{v v0:V}(r0:RelD ⟨K,π⟩ α H d v0)(r:RelD ⟨K,π⟩ (α ++ β) H' d v):RelD ⟨K,π⟩ α H' d v:=r.old2 r0.rf
theorem RelDs.old{ds:List D}{vs vs0:List V}(r0:RelDs ⟨K,π⟩ α H ds vs0)(r:RelDs ⟨K,π⟩ (α ++ β) H' ds vs):RelDs ⟨K,π⟩ α H' ds vs:=r.old2 r0.rf
theorem RelKV.old{κ:Type}{ds:List (κ×D)}{vs vs0:List (κ×V)}(r0:RelKV ⟨K,π⟩ α H ds vs0)(r:RelKV ⟨K,π⟩ (α ++ β) H' ds vs):RelKV ⟨K,π⟩ α H' ds vs:=by
 induction r0 generalizing vs with
 |nil=>cases r;exact .nil
 |cons r0 _ ih=>cases r with | cons r t=>exact .cons (RelD.old r0 r) (ih t)
theorem RelKV.nr{κ:Type}{ds:List (κ×D)}{vs:List (κ×V)}(e:nrDs (ds.map (·.2))=true)(r:RelKV ⟨K,π⟩ (α ++ β) H ds vs):RelKV ⟨K,π⟩ α H ds vs:=by
 induction r with
 |nil=>exact .nil
 |cons r _ ih =>
  have e:(nrD _ && nrDs _)=true:=e
  rw [Bool.and_eq_true] at e
  exact .cons (RelD.nr e.1 r) (ih e.2)
theorem RelO'.nr{p:Addr}{o:O}(e:nrO o=true)(r:RelO' ⟨K,π⟩ (α ++ β) H p o):RelO' ⟨K,π⟩ α H p o:=by
 cases r with
 |lst h t=>exact .lst h (t.nr e)
 |dT h t=>exact .dT h (t.nr e)
 |dK h t=>exact .dK h (t.nr e)
 |ins n h t=>exact .ins n h (t.nr e)
theorem RelO'.old{p p0:Addr}{o:O}(r0:RelO' ⟨K,π⟩ α H p0 o)(r:RelO' ⟨K,π⟩ (α ++ β) H' p o):RelO' ⟨K,π⟩ α H' p o:=by
 cases r0 with
 |lst h0 t0=>cases r with | lst h t=>exact .lst h (t0.old t)
 |dT h0 t0=>cases r with | dT h t=>exact .dT h (t0.old t)
 |dK h0 t0=>cases r with | dK h t=>exact .dK h (t0.old t)
 |ins n0 h0 t0=>cases r with | ins n h t=>exact .ins n h (t0.old t)
theorem Vw.rel(R:HRel ⟨K,π⟩ (α ++ β) H h){n:Nat}(hn:α.length=n){d e:D}{v:V}(w:Vw n h d e)(r:RelD ⟨K,π⟩ (α ++ β) H d v):RelD ⟨K,π⟩ α H e v:=by
 refine Vw.rec (motive_1:=fun d e _=>∀ v,RelD ⟨K,π⟩ (α ++ β) H d v→RelD ⟨K,π⟩ α H e v) (motive_2:=fun ds es _=>∀ vs,RelDs ⟨K,π⟩ (α ++ β) H ds vs→RelDs ⟨K,π⟩ α H es vs) (fun e v r=>r.nr e) ?_ ?_ ?_ ?_ ?_ ?_ w v r
 ·intro i hi v r
  cases r with
  |ref hp=>exact .ref (by rw [List.getElem?_append_left (by omega)] at hp;exact hp)
 ·intro i xs ys hi e _ ih v r
  cases r with
  |ref hp =>
  obtain ⟨us,e2,e3⟩:=refL R hp e
  have hm:=List.mem_of_getElem? hp
  refine .lst ⟨fun z=>?_,fun z=>(R.dis _ z).1 hm,e2⟩ (ih _ e3)
  obtain ⟨j,hj,ej⟩:=List.getElem_of_mem z
  subst ej
  have q:(α ++ β)[j]?=some α[j]:=by rw [List.getElem?_append_left hj,List.getElem?_eq_getElem hj]
  have:=(List.getElem?_inj (List.getElem?_eq_some_iff.mp hp).1 R.nd).mp (hp.trans q.symm)
  omega
 ·intro xs ys _ ih v r
  cases r with
  |tup q r=>exact .tup q.less (ih _ r)
 ·intro xs ys _ ih v r
  cases r with
  |lst q r=>exact .lst q.less (ih _ r)
 ·intro vs r
  cases r;exact .nil
 ·intro d e ds es _ _ h1 h2 vs r
  cases r with
  |cons r s=>exact .cons (h1 _ r) (h2 _ s)
end
noncomputable def Dr(h:Hh)(Q:DK):DK:=fun d h'=>∃ h2 g d',h'=h2 ++ g∧h2.length=h.length∧(∀ (i:Nat) (o:O),h2[i]?=some o→h[i]?=some o∨nrO o=true)∧Vw h.length h' d d'∧Q d' h2
theorem Dr.rel{K:PySem.W.Frag}{π α α':List Addr}{H H':Hp}{h h':Hh}{Q:DK}{d:D}{v:V}(R:HRel ⟨K,π⟩ α H h)(e:Ext α H α' H')(R':HRel ⟨K,π⟩ α' H' h')(r:RelD ⟨K,π⟩ α' H' d v)(q:Dr h Q d h') :
  ∃ d' h2,Q d' h2∧Ext α H α H'∧HRel ⟨K,π⟩ α H' h2∧RelD ⟨K,π⟩ α H' d' v:=by
 obtain ⟨h2,g,d',rfl,hl,ho,vw,q⟩:=q
 obtain ⟨⟨β,rfl,hb⟩,ek,ed⟩:=e
 have hn:=R.len
 refine ⟨d',h2,q,⟨⟨[],by simp,fun p hp=>nomatch hp⟩,ek,ed⟩,⟨by omega,?_,fun p hp=>?_,fun i o eo=>?_⟩,vw.rel R' hn r⟩
 ·exact R.nd
 ·exact ⟨fun z=>(R'.dis p hp).1 (List.mem_append_left _ z),(R'.dis p hp).2⟩
 ·have hi:i < h2.length:=(List.getElem?_eq_some_iff.mp eo).1
  obtain ⟨p,ep,ro⟩:=R'.obj i o (by rw [List.getElem?_append_left hi];exact eo)
  refine ⟨p,by rw [List.getElem?_append_left (by omega)] at ep;exact ep,?_⟩
  rcases ho i o eo with z | z
  ·obtain ⟨p0,_,r0⟩:=R.obj i o z
   exact r0.old ro
  ·exact ro.nr z
theorem fn_okD{P:Program}{w:World}{K:PySem.W.Frag}{mg:Str→Option Value}{base:Heap}{x qual:Str}{st:Stmt}{f:Addr}{fd:FuncData}{N ps:List Str}{k:Nat}{b:DS}{g:DSp}(F:Fun K x qual st f fd)(S:FnScope N ps (defScope st))
  (hb:∀ (cdv:Value) (A:Around) (outer:List Env) (s:Shared) (H:Hp) (E:XK),Room k (A.deeper (PyProof.Rows.envOfC qual (defScope st) s.heap.objs.size f cdv))→SSs (cxOf CX0 P w K mg base N qual (defScope st) f cdv A outer s H E).nox (defBody st) b)
  (hg:∀ ds h Q,g ds h Q→runD N.length b ds h (Dr h Q)):FnOk P w K mg base CX0 (k + 1) f fd ps (spD K ps.length g):=by
 refine F.ok S (fun vs H Q E h=>?_) fun cdv A outer s H vs Q E hr h=>?_
 ·obtain ⟨π,α,h,ds,Q',R,r,l,_⟩:=h
  rw [← r.length,l]
 ·obtain ⟨π,α,h,ds,Q',R,r,l,q,kk⟩:=h
  refine ⟨_,hb cdv A outer s H E hr,π,α,_,h,{ nx:=fun _ h'=>Dr h Q' .non h',rt:=Dr h Q' },R,relS_start r,hg ds h Q' q,⟨fun _ h' α' H' σ' a b c _=>?_,fun d h' α' H' v a b c d'=>?_,fun _ _ _ _ _ a _ _ _=>a.elim,fun _ _ _ _ _ a _ _ _=>a.elim,fun _ _ _ _ _ _ _ a _ _ _=>a.elim⟩⟩
  ·obtain ⟨d',h2,q,e,R2,r2⟩:=a.rel R b c .non
   exact kk d' h2 α H' .non q e R2 r2
  ·obtain ⟨d',h2,q,e,R2,r2⟩:=a.rel R b c d'
   exact kk d' h2 α H' v q e R2 r2
theorem nrDs_map{τ:Type}{g:τ→D}(hg:∀ x,nrD (g x)=true):∀ xs:List τ,nrDs (xs.map g)=true
 |[]=>rfl
 |x :: r=>by
  show (nrD (g x) && nrDs (r.map g))=true
  rw [hg x,nrDs_map hg r];rfl
theorem Vws.of{n:Nat}{h:Hh}:∀ {xs:List D},nrDs xs=true→Vws n h xs xs
 |[],_=>.nil
 |x :: r,e=>by
  have e:(nrD x && nrDs r)=true:=e
  rw [Bool.and_eq_true] at e
  exact .cons (.nr e.1) (Vws.of e.2)
theorem Vws.of_get{n:Nat}{h:Hh}:∀ {xs ys:List D},xs.length=ys.length→(∀ (i:Nat) (x y:D),xs[i]?=some x→ys[i]?=some y→Vw n h x y)→Vws n h xs ys
 |[],[],_,_=>.nil
 |x :: xs,y :: ys,e,k=>.cons (k 0 x y rfl rfl) (Vws.of_get (by simpa using e) fun i a b h1 h2=>k (i + 1) a b (by simpa using h1) (by simpa using h2))
theorem Dr.drop{h g:Hh}{Q:DK}{d:D}(e:nrD d=true)(q:Q d h):Dr h Q d (h ++ g):=⟨h,g,d,rfl,rfl,fun _ _ e=>.inl e,.nr e,q⟩
theorem Dr.dropL{h:Hh}{Q:DK}{xs:List D}{g1 g2:Hh}{k:Nat}(e:nrDs xs=true)(hk:k=h.length + g1.length)(q:Q (.lst xs) h):Dr h Q (.ref k) (h ++ (g1 ++ .lst xs :: g2)):=by
 refine ⟨h,g1 ++ .lst xs :: g2,.lst xs,rfl,rfl,fun _ _ e=>.inl e,.opn (by omega) ?_ (.of e),q⟩
 subst hk
 rw [List.getElem?_append_right (by omega),show h.length + g1.length - h.length=g1.length by omega,List.getElem?_append_right (Nat.le_refl _)]
 simp
end DL
namespace DL
open PySem L2
theorem atN{α:Type}(xs:List α)(i:Nat):atI xs (i:Int)=xs[i]?:=by
 unfold atI ixN
 by_cases h:i < xs.length
 ·rw [if_pos (by omega),if_pos (by omega)];simp
 ·rw [if_pos (by omega),if_neg (by omega)]
  simp;omega
theorem atI_of{α:Type}{xs:List α}{i:Int}(h0:0 ≤ i):atI xs i=xs[i.toNat]?:=by
 have:=atN xs i.toNat
 rwa [Int.toNat_of_nonneg h0] at this
theorem atI_0{α:Type}(a:α)(l:List α):atI (a :: l) 0=some a:=atN _ 0
theorem atI_1{α:Type}(a b:α)(l:List α):atI (a :: b :: l) 1=some b:=atN _ 1
theorem atI_2{α:Type}(a b c:α)(l:List α):atI (a :: b :: c :: l) 2=some c:=atN _ 2
theorem atI_3{α:Type}(a b c d:α)(l:List α):atI (a :: b :: c :: d :: l) 3=some d:=atN _ 3
theorem at1_0{α:Type}(a:α):atI [a] 0=some a:=rfl
theorem at2_0{α:Type}(a b:α):atI [a,b] 0=some a:=rfl
theorem at2_1{α:Type}(a b:α):atI [a,b] 1=some b:=rfl
theorem at3_0{α:Type}(a b c:α):atI [a,b,c] 0=some a:=rfl
theorem at3_1{α:Type}(a b c:α):atI [a,b,c] 1=some b:=rfl
theorem at3_2{α:Type}(a b c:α):atI [a,b,c] 2=some c:=rfl
theorem at4_0{α:Type}(a b c d:α):atI [a,b,c,d] 0=some a:=rfl
theorem at4_1{α:Type}(a b c d:α):atI [a,b,c,d] 1=some b:=rfl
theorem at4_2{α:Type}(a b c d:α):atI [a,b,c,d] 2=some c:=rfl
theorem at4_3{α:Type}(a b c d:α):atI [a,b,c,d] 3=some d:=rfl
theorem at5_0{α:Type}(a b c d e:α):atI [a,b,c,d,e] 0=some a:=rfl
theorem at5_1{α:Type}(a b c d e:α):atI [a,b,c,d,e] 1=some b:=rfl
theorem at5_2{α:Type}(a b c d e:α):atI [a,b,c,d,e] 2=some c:=rfl
theorem at5_3{α:Type}(a b c d e:α):atI [a,b,c,d,e] 3=some d:=rfl
theorem at5_4{α:Type}(a b c d e:α):atI [a,b,c,d,e] 4=some e:=rfl
theorem at6_0{α:Type}(a b c d e f:α):atI [a,b,c,d,e,f] 0=some a:=rfl
theorem at6_1{α:Type}(a b c d e f:α):atI [a,b,c,d,e,f] 1=some b:=rfl
theorem at6_2{α:Type}(a b c d e f:α):atI [a,b,c,d,e,f] 2=some c:=rfl
theorem at6_3{α:Type}(a b c d e f:α):atI [a,b,c,d,e,f] 3=some d:=rfl
theorem at6_4{α:Type}(a b c d e f:α):atI [a,b,c,d,e,f] 4=some e:=rfl
theorem at6_5{α:Type}(a b c d e f:α):atI [a,b,c,d,e,f] 5=some f:=rfl
theorem at7_0{α:Type}(a b c d e f g:α):atI [a,b,c,d,e,f,g] 0=some a:=rfl
theorem at7_1{α:Type}(a b c d e f g:α):atI [a,b,c,d,e,f,g] 1=some b:=rfl
theorem at7_2{α:Type}(a b c d e f g:α):atI [a,b,c,d,e,f,g] 2=some c:=rfl
theorem at7_3{α:Type}(a b c d e f g:α):atI [a,b,c,d,e,f,g] 3=some d:=rfl
theorem at7_4{α:Type}(a b c d e f g:α):atI [a,b,c,d,e,f,g] 4=some e:=rfl
theorem at7_5{α:Type}(a b c d e f g:α):atI [a,b,c,d,e,f,g] 5=some f:=rfl
theorem at7_6{α:Type}(a b c d e f g:α):atI [a,b,c,d,e,f,g] 6=some g:=rfl
theorem at8_0{α:Type}(a b c d e f g i:α):atI [a,b,c,d,e,f,g,i] 0=some a:=rfl
theorem at8_1{α:Type}(a b c d e f g i:α):atI [a,b,c,d,e,f,g,i] 1=some b:=rfl
theorem at8_2{α:Type}(a b c d e f g i:α):atI [a,b,c,d,e,f,g,i] 2=some c:=rfl
theorem at8_3{α:Type}(a b c d e f g i:α):atI [a,b,c,d,e,f,g,i] 3=some d:=rfl
theorem at8_4{α:Type}(a b c d e f g i:α):atI [a,b,c,d,e,f,g,i] 4=some e:=rfl
theorem at8_5{α:Type}(a b c d e f g i:α):atI [a,b,c,d,e,f,g,i] 5=some f:=rfl
theorem at8_6{α:Type}(a b c d e f g i:α):atI [a,b,c,d,e,f,g,i] 6=some g:=rfl
theorem at8_7{α:Type}(a b c d e f g i:α):atI [a,b,c,d,e,f,g,i] 7=some i:=rfl
theorem inF_2(x a b:D):inF x [a,b]=(eqF a x || (eqF b x || false)):=rfl
theorem inF_3(x a b c:D):inF x [a,b,c]=(eqF a x || (eqF b x || (eqF c x || false))):=rfl
theorem eqF_s(a b:Str):eqF (.str a) (.str b)=(a == b):=rfl
theorem or_t(b:Bool):(true || b)=true:=rfl
theorem or_f(b:Bool):(false || b)=b:=rfl
theorem ix_ls{h:Hh}{d:D}{xs:List D}(e:lsOf h d=some xs)(k:Int):ixD h d (.int k)=atI xs k:=by
 cases d with
 |lst ys=>cases e;rfl
 |scr ys=>cases e;rfl
 |ref i =>
  have e:(match h[i]? with | some (.lst xs)=>some xs | _=>none)=some xs:=e
  show (match h[i]? with | some (.lst xs)=>atI xs k | _=>none)=atI xs k
  cases q:h[i]? with
  |none=>rw [q] at e;cases e
  |some o =>
   rw [q] at e
   cases o with
   |lst ys=>cases e;rfl
   |_=>cases e
 |_=>cases e
theorem seq_ls{h:Hh}{d:D}{xs:List D}(e:lsOf h d=some xs):seqOf h d=some xs:=by
 cases d with
 |lst ys=>exact e
 |scr ys=>exact e
 |ref i=>exact e
 |_=>cases e
theorem len_ls{h:Hh}{d:D}{xs:List D}(e:lsOf h d=some xs):lenD h d=some xs.length:=by
 have s:=seq_ls e
 cases d with
 |lst ys=>cases e;rfl
 |scr ys=>cases e;rfl
 |ref i=>show (seqOf h (.ref i)).map List.length=_;rw [s];rfl
 |_=>cases e
theorem src_ls{h:Hh}{d:D}{xs:List D}(e:lsOf h d=some xs):∃ w,seqSrc h d=some ⟨xs,w⟩∧(Src.mk xs w).ok h∧∀ p ∈ w,∃ i,d = .ref i∧p=(i,.lst xs):=by
 cases d with
 |lst ys=>cases e;exact ⟨[],rfl,Src.ok_nil,fun p hp=>nomatch hp⟩
 |scr ys=>cases e;exact ⟨[],rfl,Src.ok_nil,fun p hp=>nomatch hp⟩
 |ref i =>
  have e:(match h[i]? with | some (.lst xs)=>some xs | _=>none)=some xs:=e
  cases q:h[i]? with
  |none=>rw [q] at e;cases e
  |some o =>
   rw [q] at e
   cases o with
   |lst ys =>
    cases e
    refine ⟨[(i,.lst xs)],?_,fun p hp=>?_,fun p hp=>⟨i,rfl,List.mem_singleton.mp hp⟩⟩
    ·show (match h[i]? with | some (.lst xs)=>some (Src.mk xs [(i,.lst xs)]) | _=>none)=_
     rw [q]
    ·rw [List.mem_singleton.mp hp];exact q
   |_=>cases e
 |_=>cases e
noncomputable def Pre(h h':Hh):Prop:=∀ (i:Nat) (o:O),h[i]?=some o→h'[i]?=some o
theorem Pre.app(h g:Hh):Pre h (h ++ g):=fun i o e=>by
 rw [List.getElem?_append_left (List.getElem?_eq_some_iff.mp e).1];exact e
theorem Pre.ls{h h':Hh}(p:Pre h h'){d:D}{xs:List D}(e:lsOf h d=some xs):lsOf h' d=some xs:=by
 cases d with
 |ref i =>
  have e:(match h[i]? with | some (.lst xs)=>some xs | _=>none)=some xs:=e
  show (match h'[i]? with | some (.lst xs)=>some xs | _=>none)=some xs
  cases q:h[i]? with
  |none=>rw [q] at e;cases e
  |some o=>rw [q] at e;rw [p i o q];exact e
 |_=>exact e
theorem ls_new(h:Hh)(xs:List D):lsOf (h ++ [.lst xs]) (.ref h.length)=some xs:=by
 show (match (h ++ [O.lst xs])[h.length]? with | some (.lst xs)=>some xs | _=>none)=some xs
 rw [List.getElem?_append_right (Nat.le_refl _)];simp
theorem get_new(h:Hh)(o:O):(h ++ [o])[h.length]?=some o:=by
 rw [List.getElem?_append_right (Nat.le_refl _)];simp
theorem set_new(h:Hh)(o u:O):(h ++ [o]).set h.length u=h ++ [u]:=by
 rw [List.set_append_right _ _ (Nat.le_refl _)];simp
theorem forL_map{τ:Type}{S:Src}{t:DG}{b:DS}{E:DEnds}(P:List τ→Sl→Hh→Prop){g:τ→D}{ys:List τ}{δ:Sl}{h:Hh}(h0:P [] δ h)(ok:∀ p δ h,P p δ h→S.ok h)
  (hs:∀ (p:List τ) (y:τ) (r:List τ) (δ:Sl) (h:Hh) (N:Sl→Hh→Prop),ys=p ++ y :: r→P p δ h→(∀ δ h,P (p ++ [y]) δ h→N δ h)→t (g y) δ h fun δ2 h2=>b { E with nx:=N,ct:=N,bk:=E.nx } δ2 h2)
  (hd:∀ δ h,P ys δ h→E.nx δ h):forL S t b E (ys.map g) δ h:=by
 have go:∀ (r p:List τ) δ h,ys=p ++ r→P p δ h→forL S t b E (r.map g) δ h:=by
  intro r
  induction r with
  |nil=>intro p δ h e q;rw [List.append_nil] at e;subst e;exact ⟨ok _ _ _ q,hd _ _ q⟩
  |cons y r ih =>
   intro p δ h e q
   exact ⟨ok _ _ _ q,hs p y r δ h _ e q fun δ3 h3 p3=>ih (p ++ [y]) δ3 h3 (by rw [e];simp) p3⟩
 exact go ys [] δ h rfl h0
theorem compL_map{τ:Type}{S:Src}{t:DG}{tf:DT}{te:DE}(P:List τ→List D→Sl→Hh→Prop){g:τ→D}{ys:List τ}{δ:Sl}{h:Hh}{Q:List D→Hh→Prop}(h0:P [] [] δ h)(ok:∀ p a δ h,P p a δ h→S.ok h)
  (hs:∀ (p:List τ) (y:τ) (r:List τ) (acc:List D) (δ:Sl) (h:Hh) (N:List D→Sl→Hh→Prop),ys=p ++ y :: r→P p acc δ h→(∀ a δ h,P (p ++ [y]) a δ h→N a δ h) →
   t (g y) δ h fun δ2 h2=>tf δ2 h2 fun b h3=>if b=true then te δ2 h3 fun z h4=>N (acc ++ [z]) δ2 h4 else N acc δ2 h3)
  (hd:∀ a δ h,P ys a δ h→Q a h):compL S t tf te (ys.map g) [] δ h Q:=by
 have go:∀ (r p:List τ) a δ h,ys=p ++ r→P p a δ h→compL S t tf te (r.map g) a δ h Q:=by
  intro r
  induction r with
  |nil=>intro p a δ h e q;rw [List.append_nil] at e;subst e;exact ⟨ok _ _ _ _ q,hd _ _ _ q⟩
  |cons y r ih =>
   intro p a δ h e q
   exact ⟨ok _ _ _ _ q,hs p y r a δ h (fun a δ h=>compL S t tf te (r.map g) a δ h Q) e q fun a3 δ3 h3 p3=>ih (p ++ [y]) a3 δ3 h3 (by rw [e];simp) p3⟩
 exact go ys [] [] δ h rfl h0
theorem comp1{τ:Type}{S:Src}{tf:DT}{te:DE}{g:τ→D}{ys:List τ}{h:Hh}{fr:Sl}{Q:List D→Hh→Prop}(c:τ→Bool)(v:τ→D)(ok:S.ok h)(o:Option D)
  (htf:∀ y ∈ ys,∀ K:Bool→Hh→Prop,K (c y) h→tf (some (g y) :: fr) h K) (hte:∀ y ∈ ys,c y=true→∀ K:DK,K (v y) h→te (some (g y) :: fr) h K)
  (hd:Q ((ys.filter c).map v) h):compL S (dName 0) tf te (ys.map g) [] (o :: fr) h Q:=by
 refine compL_map (fun p a δ h'=>h'=h∧(∃ o,δ=o :: fr)∧a=(p.filter c).map v) ⟨rfl,⟨o,rfl⟩,rfl⟩ (fun p a δ h' q=>by rw [q.1];exact ok) ?_ ?_
 ·rintro p y r acc δ h' N e ⟨rfl,⟨o,rfl⟩,rfl⟩ hN
  have hy:y ∈ ys:=by rw [e];simp
  refine htf y hy _ ?_
  cases hc:c y with
  |true =>
   refine iteT (hte y hy hc _ (hN _ _ _ ⟨rfl,⟨_,rfl⟩,?_⟩))
   simp [List.filter_append,hc]
  |false =>
   refine iteF (hN _ _ _ ⟨rfl,⟨_,rfl⟩,?_⟩)
   simp [List.filter_append,hc]
 ·rintro a δ h' ⟨rfl,_,rfl⟩
  exact hd
theorem comp1n{τ:Type}{S:Src}{te:DE}{g:τ→D}{ys:List τ}{h:Hh}{fr:Sl}{Q:List D→Hh→Prop}(v:τ→D)(ok:S.ok h)(o:Option D)
  (hte:∀ y ∈ ys,∀ K:DK,K (v y) h→te (some (g y) :: fr) h K) (hd:Q (ys.map v) h):compL S (dName 0) dNoIf te (ys.map g) [] (o :: fr) h Q :=
 comp1 (fun _=>true) v ok o (fun _ _ K k=>k) (fun y hy _=>hte y hy) ((show ys.filter (fun _=>true)=ys by simp).symm ▸ hd)
theorem rangeD_map(lo:Int):∀ n:Nat,rangeD lo n=(List.range n).map fun i=>D.int (lo + (i:Nat)):=by
 intro n
 apply List.ext_getElem?
 intro i
 rw [rangeD_get]
 by_cases h:i < n <;> simp [h]
theorem enumD_map{τ:Type}(lo:Int)(g:τ→D)(ys:List τ):enumD lo (ys.map g)=ys.zipIdx.map fun p=>.tup [.int (lo + (p.2:Nat)),g p.1]:=by
 apply List.ext_getElem?
 intro i
 rw [enumD_get]
 simp [List.getElem?_zipIdx]
 cases ys[i]? <;> simp
theorem isN_non:isNon .non=true:=rfl
theorem isN_bl(b:Bool):isNon (.bl b)=false:=rfl
theorem isN_int(b:Int):isNon (.int b)=false:=rfl
theorem isN_str(b:Str):isNon (.str b)=false:=rfl
theorem isN_tup(b:List D):isNon (.tup b)=false:=rfl
theorem isN_lst(b:List D):isNon (.lst b)=false:=rfl
theorem isN_ref(b:Nat):isNon (.ref b)=false:=rfl
theorem lsOf_lst(h:Hh)(xs:List D):lsOf h (.lst xs)=some xs:=rfl
theorem seqOf_lst(h:Hh)(xs:List D):seqOf h (.lst xs)=some xs:=rfl
theorem seqSrc_lst(h:Hh)(xs:List D):seqSrc h (.lst xs)=some ⟨xs,[]⟩:=rfl
theorem lenD_lst(h:Hh)(xs:List D):lenD h (.lst xs)=some xs.length:=rfl
theorem ixD_lst(h:Hh)(xs:List D)(i:Int):ixD h (.lst xs) (.int i)=atI xs i:=rfl
theorem trD_lst(h:Hh)(xs:List D):trD h (.lst xs)=some (!xs.isEmpty):=rfl
theorem lsOf_scr(h:Hh)(xs:List D):lsOf h (.scr xs)=some xs:=rfl
theorem seqOf_scr(h:Hh)(xs:List D):seqOf h (.scr xs)=some xs:=rfl
theorem seqSrc_scr(h:Hh)(xs:List D):seqSrc h (.scr xs)=some ⟨xs,[]⟩:=rfl
theorem lenD_scr(h:Hh)(xs:List D):lenD h (.scr xs)=some xs.length:=rfl
theorem ixD_scr(h:Hh)(xs:List D)(i:Int):ixD h (.scr xs) (.int i)=atI xs i:=rfl
theorem trD_scr(h:Hh)(xs:List D):trD h (.scr xs)=some (!xs.isEmpty):=rfl
theorem lsP_lst(h:Hh)(xs:List D):lsP h (.lst xs)=some xs:=rfl
theorem lsP_tup(h:Hh)(xs:List D):lsP h (.tup xs)=none:=rfl
theorem lsP_int(h:Hh)(x:Int):lsP h (.int x)=none:=rfl
theorem lsP_str(h:Hh)(x:Str):lsP h (.str x)=none:=rfl
theorem seqOf_tup(h:Hh)(xs:List D):seqOf h (.tup xs)=some xs:=rfl
theorem seqSrc_tup(h:Hh)(xs:List D):seqSrc h (.tup xs)=some ⟨xs,[]⟩:=rfl
theorem lenD_tup(h:Hh)(xs:List D):lenD h (.tup xs)=some xs.length:=rfl
theorem ixD_tup(h:Hh)(xs:List D)(i:Int):ixD h (.tup xs) (.int i)=atI xs i:=rfl
theorem trD_tup(h:Hh)(xs:List D):trD h (.tup xs)=some (!xs.isEmpty):=rfl
theorem trD_non(h:Hh):trD h .non=some false:=rfl
theorem trD_bl(h:Hh)(b:Bool):trD h (.bl b)=some b:=rfl
theorem trD_int(h:Hh)(i:Int):trD h (.int i)=some (i != 0):=rfl
theorem kindD_non(h:Hh) :kindD h (.non)=some "NoneType":=rfl
theorem kindD_bl(h:Hh)(x:Bool):kindD h (.bl x)=some "bool":=rfl
theorem kindD_int(h:Hh)(x:Int):kindD h (.int x)=some "int":=rfl
theorem kindD_str(h:Hh)(x:Str):kindD h (.str x)=some "str":=rfl
theorem kindD_tup(h:Hh)(x:List D):kindD h (.tup x)=some "tuple":=rfl
theorem kindD_lst(h:Hh)(x:List D):kindD h (.lst x)=some "list":=rfl
theorem isK_NoneType_bool:isKind "NoneType" "bool" = false:=rfl
theorem isK_NoneType_int:isKind "NoneType" "int" = false:=rfl
theorem isK_NoneType_str:isKind "NoneType" "str" = false:=rfl
theorem isK_NoneType_tuple:isKind "NoneType" "tuple" = false:=rfl
theorem isK_NoneType_list:isKind "NoneType" "list" = false:=rfl
theorem isK_NoneType_dict:isKind "NoneType" "dict" = false:=rfl
theorem isK_bool_bool:isKind "bool" "bool" = true:=rfl
theorem isK_bool_int:isKind "bool" "int" = true:=rfl
theorem isK_bool_str:isKind "bool" "str" = false:=rfl
theorem isK_bool_tuple:isKind "bool" "tuple" = false:=rfl
theorem isK_bool_list:isKind "bool" "list" = false:=rfl
theorem isK_bool_dict:isKind "bool" "dict" = false:=rfl
theorem isK_int_bool:isKind "int" "bool" = false:=rfl
theorem isK_int_int:isKind "int" "int" = true:=rfl
theorem isK_int_str:isKind "int" "str" = false:=rfl
theorem isK_int_tuple:isKind "int" "tuple" = false:=rfl
theorem isK_int_list:isKind "int" "list" = false:=rfl
theorem isK_int_dict:isKind "int" "dict" = false:=rfl
theorem isK_str_bool:isKind "str" "bool" = false:=rfl
theorem isK_str_int:isKind "str" "int" = false:=rfl
theorem isK_str_str:isKind "str" "str" = true:=rfl
theorem isK_str_tuple:isKind "str" "tuple" = false:=rfl
theorem isK_str_list:isKind "str" "list" = false:=rfl
theorem isK_str_dict:isKind "str" "dict" = false:=rfl
theorem isK_tuple_bool:isKind "tuple" "bool" = false:=rfl
theorem isK_tuple_int:isKind "tuple" "int" = false:=rfl
theorem isK_tuple_str:isKind "tuple" "str" = false:=rfl
theorem isK_tuple_tuple:isKind "tuple" "tuple" = true:=rfl
theorem isK_tuple_list:isKind "tuple" "list" = false:=rfl
theorem isK_tuple_dict:isKind "tuple" "dict" = false:=rfl
theorem isK_list_bool:isKind "list" "bool" = false:=rfl
theorem isK_list_int:isKind "list" "int" = false:=rfl
theorem isK_list_str:isKind "list" "str" = false:=rfl
theorem isK_list_tuple:isKind "list" "tuple" = false:=rfl
theorem isK_list_list:isKind "list" "list" = true:=rfl
theorem isK_list_dict:isKind "list" "dict" = false:=rfl
theorem isK_dict_bool:isKind "dict" "bool" = false:=rfl
theorem isK_dict_int:isKind "dict" "int" = false:=rfl
theorem isK_dict_str:isKind "dict" "str" = false:=rfl
theorem isK_dict_tuple:isKind "dict" "tuple" = false:=rfl
theorem isK_dict_list:isKind "dict" "list" = false:=rfl
theorem isK_dict_dict:isKind "dict" "dict" = true:=rfl
theorem lsOf_ref{h:Hh}{i:Nat}{xs:List D}(e:h[i]?=some (.lst xs)):lsOf h (.ref i)=some xs:=by show (match h[i]? with | some (.lst xs)=>some xs | _=>none)=_;rw [e]
theorem seqSrc_ref{h:Hh}{i:Nat}{xs:List D}(e:h[i]?=some (.lst xs)):seqSrc h (.ref i)=some ⟨xs,[(i,.lst xs)]⟩:=by show (match h[i]? with | some (.lst xs)=>some (Src.mk xs [(i,.lst xs)]) | _=>none)=_;rw [e]
theorem ixN_0(n:Nat):ixN (n + 1) 0=some 0:=by unfold ixN;rw [if_pos (by decide),if_pos (by omega)];rfl
theorem ixN_10:ixN 1 0=some 0:=rfl
theorem ixN_nat{n i:Nat}(h:i < n):ixN n (i:Int)=some i:=by unfold ixN;rw [if_pos (by omega),if_pos (by omega)];simp
theorem ix_ref0{h:Hh}{i:Nat}{d:D}{l:List D}(e:h[i]?=some (.lst (d :: l))):ixD h (.ref i) (.int 0)=some d:=by rw [ix_ls (lsOf_ref e)];exact atI_0 ..
theorem get_set{h:Hh}{i:Nat}{o u:O}(e:h[i]?=some o):(h.set i u)[i]?=some u:=List.getElem?_set_self (List.getElem?_eq_some_iff.mp e).1
theorem set_set{h:Hh}{i:Nat}{o u:O}:(h.set i o).set i u=h.set i u:=List.set_set ..
theorem st_get{h g:Hh}{k:Nat}{o x:O}(e:h[k]?=some x):((h.set k o) ++ g)[k]?=some o:=by
 have hk:=(List.getElem?_eq_some_iff.mp e).1
 rw [List.getElem?_append_left (by rw [List.length_set];exact hk)];exact List.getElem?_set_self hk
theorem st_set{h g:Hh}{k:Nat}{o u x:O}(e:h[k]?=some x):((h.set k o) ++ g).set k u=(h.set k u) ++ g:=by
 have hk:=(List.getElem?_eq_some_iff.mp e).1
 rw [List.set_append_left _ _ (by rw [List.length_set];exact hk),List.set_set]
theorem nw_get{h:Hh}{k:Nat}{o m:O}:((h.set k o) ++ [m])[h.length]?=some m:=by
 rw [List.getElem?_append_right (by rw [List.length_set];exact Nat.le_refl _)];simp
theorem nw_set{h:Hh}{k:Nat}{o m u:O}:((h.set k o) ++ [m]).set h.length u=(h.set k o) ++ [u]:=by
 rw [List.set_append_right _ _ (by rw [List.length_set];exact Nat.le_refl _)];simp
theorem set_id{h:Hh}{i:Nat}{o:O}(e:h[i]?=some o):h.set i o=h:=by
 apply List.ext_getElem?
 intro j
 by_cases z:i=j
 ·subst z;rw [List.getElem?_set_self (List.getElem?_eq_some_iff.mp e).1,e]
 ·rw [List.getElem?_set_ne z]
theorem range_split{n d:Nat}{p r:List Nat}(e:List.range n=p ++ d :: r):d=p.length∧d < n:=by
 have h9:p.length < n:=by
  have:p.length < (List.range n).length:=by rw [e];simp
  simpa using this
 have h8:(List.range n)[p.length]?=some d:=by rw [e];simp
 rw [List.getElem?_range h9] at h8
 cases h8;exact ⟨rfl,h9⟩
theorem Dr.state{h g:Hh}{Q:DK}{d:D}{k:Nat}{o x:O}(e:h[k]?=some x)(ho:nrO o=true)(hd:nrD d=true)(q:Q d (h.set k o)):Dr h Q d ((h.set k o) ++ g):=by
 refine ⟨h.set k o,g,d,rfl,by rw [List.length_set],fun i u hu=>?_,.nr hd,q⟩
 by_cases z:k=i
 ·subst z
  rw [List.getElem?_set_self (List.getElem?_eq_some_iff.mp e).1] at hu
  cases hu;exact .inr ho
 ·rw [List.getElem?_set_ne z] at hu;exact .inl hu
theorem seq_intro{f g:DS}{E:DEnds}{δ:Sl}{h:Hh}(k:∀ N:Sl→Hh→Prop,N=g E→f { E with nx:=N } δ h):dSeq f g E δ h:=k _ rfl
theorem beqN(a b:Nat):((a:Int) == (b:Int))=decide (a=b):=by rw [Bool.eq_iff_iff];simp;omega
theorem beqP(a b:Nat):((a:Int) == (b:Int) - 1)=decide (a + 1=b):=by rw [Bool.eq_iff_iff];simp;omega
theorem beqS(a b:Nat):((a:Int) == (b:Int))=decide (b=a):=by rw [Bool.eq_iff_iff];simp;omega
theorem if_intro{t:DT}{a b:DS}{E:DEnds}{δ:Sl}{h:Hh}(k:∀ A B:Sl→Hh→Prop,A=a E→B=b E→t δ h fun c h1=>if c=true then A δ h1 else B δ h1):dIfS t a b E δ h:=k _ _ rfl rfl
theorem iteB{c:Bool}{A B:Prop}(h1:c=true→A)(h2:c=false→B):if c=true then A else B:=by
 cases c with
 |true=>exact iteT (h1 rfl)
 |false=>exact iteF (h2 rfl)
theorem mulS{i j:Int}(h:-(2 ^ 64) < i∧i < 2 ^ 64):IntMulOk i j:=.of_left (intBits_le_64 h.1 h.2)
theorem mulS'{i j:Int}(h:-(2 ^ 64) < j∧j < 2 ^ 64):IntMulOk i j:=.of_right (intBits_le_64 h.1 h.2)
end DL
namespace CM
open PySem L2 DL
theorem sk_step:PyData.strOk (Str.ofString "step")=true:=by decide +kernel
theorem sq_step_step:((Str.ofString "step") == (Str.ofString "step"))=true:=by decide +kernel
theorem sq_step_call:((Str.ofString "step") == (Str.ofString "call"))=false:=by decide +kernel
theorem sq_step_in:((Str.ofString "step") == (Str.ofString "in"))=false:=by decide +kernel
theorem sq_step_over:((Str.ofString "step") == (Str.ofString "over"))=false:=by decide +kernel
theorem sq_step_begin:((Str.ofString "step") == (Str.ofString "begin"))=false:=by decide +kernel
theorem sq_step_start:((Str.ofString "step") == (Str.ofString "start"))=false:=by decide +kernel
theorem sq_step_short:((Str.ofString "step") == (Str.ofString "short"))=false:=by decide +kernel
theorem sq_step_along:((Str.ofString "step") == (Str.ofString "along"))=false:=by decide +kernel
theorem sq_step_within:((Str.ofString "step") == (Str.ofString "within"))=false:=by decide +kernel
theorem sq_step_at:((Str.ofString "step") == (Str.ofString "at"))=false:=by decide +kernel
theorem sq_step_out:((Str.ofString "step") == (Str.ofString "out"))=false:=by decide +kernel
theorem sk_call:PyData.strOk (Str.ofString "call")=true:=by decide +kernel
theorem sq_call_step:((Str.ofString "call") == (Str.ofString "step"))=false:=by decide +kernel
theorem sq_call_call:((Str.ofString "call") == (Str.ofString "call"))=true:=by decide +kernel
theorem sq_call_in:((Str.ofString "call") == (Str.ofString "in"))=false:=by decide +kernel
theorem sq_call_over:((Str.ofString "call") == (Str.ofString "over"))=false:=by decide +kernel
theorem sq_call_begin:((Str.ofString "call") == (Str.ofString "begin"))=false:=by decide +kernel
theorem sq_call_start:((Str.ofString "call") == (Str.ofString "start"))=false:=by decide +kernel
theorem sq_call_short:((Str.ofString "call") == (Str.ofString "short"))=false:=by decide +kernel
theorem sq_call_along:((Str.ofString "call") == (Str.ofString "along"))=false:=by decide +kernel
theorem sq_call_within:((Str.ofString "call") == (Str.ofString "within"))=false:=by decide +kernel
theorem sq_call_at:((Str.ofString "call") == (Str.ofString "at"))=false:=by decide +kernel
theorem sq_call_out:((Str.ofString "call") == (Str.ofString "out"))=false:=by decide +kernel
theorem sk_in:PyData.strOk (Str.ofString "in")=true:=by decide +kernel
theorem sq_in_step:((Str.ofString "in") == (Str.ofString "step"))=false:=by decide +kernel
theorem sq_in_call:((Str.ofString "in") == (Str.ofString "call"))=false:=by decide +kernel
theorem sq_in_in:((Str.ofString "in") == (Str.ofString "in"))=true:=by decide +kernel
theorem sq_in_over:((Str.ofString "in") == (Str.ofString "over"))=false:=by decide +kernel
theorem sq_in_begin:((Str.ofString "in") == (Str.ofString "begin"))=false:=by decide +kernel
theorem sq_in_start:((Str.ofString "in") == (Str.ofString "start"))=false:=by decide +kernel
theorem sq_in_short:((Str.ofString "in") == (Str.ofString "short"))=false:=by decide +kernel
theorem sq_in_along:((Str.ofString "in") == (Str.ofString "along"))=false:=by decide +kernel
theorem sq_in_within:((Str.ofString "in") == (Str.ofString "within"))=false:=by decide +kernel
theorem sq_in_at:((Str.ofString "in") == (Str.ofString "at"))=false:=by decide +kernel
theorem sq_in_out:((Str.ofString "in") == (Str.ofString "out"))=false:=by decide +kernel
theorem sk_over:PyData.strOk (Str.ofString "over")=true:=by decide +kernel
theorem sq_over_step:((Str.ofString "over") == (Str.ofString "step"))=false:=by decide +kernel
theorem sq_over_call:((Str.ofString "over") == (Str.ofString "call"))=false:=by decide +kernel
theorem sq_over_in:((Str.ofString "over") == (Str.ofString "in"))=false:=by decide +kernel
theorem sq_over_over:((Str.ofString "over") == (Str.ofString "over"))=true:=by decide +kernel
theorem sq_over_begin:((Str.ofString "over") == (Str.ofString "begin"))=false:=by decide +kernel
theorem sq_over_start:((Str.ofString "over") == (Str.ofString "start"))=false:=by decide +kernel
theorem sq_over_short:((Str.ofString "over") == (Str.ofString "short"))=false:=by decide +kernel
theorem sq_over_along:((Str.ofString "over") == (Str.ofString "along"))=false:=by decide +kernel
theorem sq_over_within:((Str.ofString "over") == (Str.ofString "within"))=false:=by decide +kernel
theorem sq_over_at:((Str.ofString "over") == (Str.ofString "at"))=false:=by decide +kernel
theorem sq_over_out:((Str.ofString "over") == (Str.ofString "out"))=false:=by decide +kernel
theorem sk_begin:PyData.strOk (Str.ofString "begin")=true:=by decide +kernel
theorem sq_begin_step:((Str.ofString "begin") == (Str.ofString "step"))=false:=by decide +kernel
theorem sq_begin_call:((Str.ofString "begin") == (Str.ofString "call"))=false:=by decide +kernel
theorem sq_begin_in:((Str.ofString "begin") == (Str.ofString "in"))=false:=by decide +kernel
theorem sq_begin_over:((Str.ofString "begin") == (Str.ofString "over"))=false:=by decide +kernel
theorem sq_begin_begin:((Str.ofString "begin") == (Str.ofString "begin"))=true:=by decide +kernel
theorem sq_begin_start:((Str.ofString "begin") == (Str.ofString "start"))=false:=by decide +kernel
theorem sq_begin_short:((Str.ofString "begin") == (Str.ofString "short"))=false:=by decide +kernel
theorem sq_begin_along:((Str.ofString "begin") == (Str.ofString "along"))=false:=by decide +kernel
theorem sq_begin_within:((Str.ofString "begin") == (Str.ofString "within"))=false:=by decide +kernel
theorem sq_begin_at:((Str.ofString "begin") == (Str.ofString "at"))=false:=by decide +kernel
theorem sq_begin_out:((Str.ofString "begin") == (Str.ofString "out"))=false:=by decide +kernel
theorem sk_start:PyData.strOk (Str.ofString "start")=true:=by decide +kernel
theorem sq_start_step:((Str.ofString "start") == (Str.ofString "step"))=false:=by decide +kernel
theorem sq_start_call:((Str.ofString "start") == (Str.ofString "call"))=false:=by decide +kernel
theorem sq_start_in:((Str.ofString "start") == (Str.ofString "in"))=false:=by decide +kernel
theorem sq_start_over:((Str.ofString "start") == (Str.ofString "over"))=false:=by decide +kernel
theorem sq_start_begin:((Str.ofString "start") == (Str.ofString "begin"))=false:=by decide +kernel
theorem sq_start_start:((Str.ofString "start") == (Str.ofString "start"))=true:=by decide +kernel
theorem sq_start_short:((Str.ofString "start") == (Str.ofString "short"))=false:=by decide +kernel
theorem sq_start_along:((Str.ofString "start") == (Str.ofString "along"))=false:=by decide +kernel
theorem sq_start_within:((Str.ofString "start") == (Str.ofString "within"))=false:=by decide +kernel
theorem sq_start_at:((Str.ofString "start") == (Str.ofString "at"))=false:=by decide +kernel
theorem sq_start_out:((Str.ofString "start") == (Str.ofString "out"))=false:=by decide +kernel
theorem sk_short:PyData.strOk (Str.ofString "short")=true:=by decide +kernel
theorem sq_short_step:((Str.ofString "short") == (Str.ofString "step"))=false:=by decide +kernel
theorem sq_short_call:((Str.ofString "short") == (Str.ofString "call"))=false:=by decide +kernel
theorem sq_short_in:((Str.ofString "short") == (Str.ofString "in"))=false:=by decide +kernel
theorem sq_short_over:((Str.ofString "short") == (Str.ofString "over"))=false:=by decide +kernel
theorem sq_short_begin:((Str.ofString "short") == (Str.ofString "begin"))=false:=by decide +kernel
theorem sq_short_start:((Str.ofString "short") == (Str.ofString "start"))=false:=by decide +kernel
theorem sq_short_short:((Str.ofString "short") == (Str.ofString "short"))=true:=by decide +kernel
theorem sq_short_along:((Str.ofString "short") == (Str.ofString "along"))=false:=by decide +kernel
theorem sq_short_within:((Str.ofString "short") == (Str.ofString "within"))=false:=by decide +kernel
theorem sq_short_at:((Str.ofString "short") == (Str.ofString "at"))=false:=by decide +kernel
theorem sq_short_out:((Str.ofString "short") == (Str.ofString "out"))=false:=by decide +kernel
theorem sk_along:PyData.strOk (Str.ofString "along")=true:=by decide +kernel
theorem sq_along_step:((Str.ofString "along") == (Str.ofString "step"))=false:=by decide +kernel
theorem sq_along_call:((Str.ofString "along") == (Str.ofString "call"))=false:=by decide +kernel
theorem sq_along_in:((Str.ofString "along") == (Str.ofString "in"))=false:=by decide +kernel
theorem sq_along_over:((Str.ofString "along") == (Str.ofString "over"))=false:=by decide +kernel
theorem sq_along_begin:((Str.ofString "along") == (Str.ofString "begin"))=false:=by decide +kernel
theorem sq_along_start:((Str.ofString "along") == (Str.ofString "start"))=false:=by decide +kernel
theorem sq_along_short:((Str.ofString "along") == (Str.ofString "short"))=false:=by decide +kernel
theorem sq_along_along:((Str.ofString "along") == (Str.ofString "along"))=true:=by decide +kernel
theorem sq_along_within:((Str.ofString "along") == (Str.ofString "within"))=false:=by decide +kernel
theorem sq_along_at:((Str.ofString "along") == (Str.ofString "at"))=false:=by decide +kernel
theorem sq_along_out:((Str.ofString "along") == (Str.ofString "out"))=false:=by decide +kernel
theorem sk_within:PyData.strOk (Str.ofString "within")=true:=by decide +kernel
theorem sq_within_step:((Str.ofString "within") == (Str.ofString "step"))=false:=by decide +kernel
theorem sq_within_call:((Str.ofString "within") == (Str.ofString "call"))=false:=by decide +kernel
theorem sq_within_in:((Str.ofString "within") == (Str.ofString "in"))=false:=by decide +kernel
theorem sq_within_over:((Str.ofString "within") == (Str.ofString "over"))=false:=by decide +kernel
theorem sq_within_begin:((Str.ofString "within") == (Str.ofString "begin"))=false:=by decide +kernel
theorem sq_within_start:((Str.ofString "within") == (Str.ofString "start"))=false:=by decide +kernel
theorem sq_within_short:((Str.ofString "within") == (Str.ofString "short"))=false:=by decide +kernel
theorem sq_within_along:((Str.ofString "within") == (Str.ofString "along"))=false:=by decide +kernel
theorem sq_within_within:((Str.ofString "within") == (Str.ofString "within"))=true:=by decide +kernel
theorem sq_within_at:((Str.ofString "within") == (Str.ofString "at"))=false:=by decide +kernel
theorem sq_within_out:((Str.ofString "within") == (Str.ofString "out"))=false:=by decide +kernel
theorem sk_at:PyData.strOk (Str.ofString "at")=true:=by decide +kernel
theorem sq_at_step:((Str.ofString "at") == (Str.ofString "step"))=false:=by decide +kernel
theorem sq_at_call:((Str.ofString "at") == (Str.ofString "call"))=false:=by decide +kernel
theorem sq_at_in:((Str.ofString "at") == (Str.ofString "in"))=false:=by decide +kernel
theorem sq_at_over:((Str.ofString "at") == (Str.ofString "over"))=false:=by decide +kernel
theorem sq_at_begin:((Str.ofString "at") == (Str.ofString "begin"))=false:=by decide +kernel
theorem sq_at_start:((Str.ofString "at") == (Str.ofString "start"))=false:=by decide +kernel
theorem sq_at_short:((Str.ofString "at") == (Str.ofString "short"))=false:=by decide +kernel
theorem sq_at_along:((Str.ofString "at") == (Str.ofString "along"))=false:=by decide +kernel
theorem sq_at_within:((Str.ofString "at") == (Str.ofString "within"))=false:=by decide +kernel
theorem sq_at_at:((Str.ofString "at") == (Str.ofString "at"))=true:=by decide +kernel
theorem sq_at_out:((Str.ofString "at") == (Str.ofString "out"))=false:=by decide +kernel
theorem sk_out:PyData.strOk (Str.ofString "out")=true:=by decide +kernel
theorem sq_out_step:((Str.ofString "out") == (Str.ofString "step"))=false:=by decide +kernel
theorem sq_out_call:((Str.ofString "out") == (Str.ofString "call"))=false:=by decide +kernel
theorem sq_out_in:((Str.ofString "out") == (Str.ofString "in"))=false:=by decide +kernel
theorem sq_out_over:((Str.ofString "out") == (Str.ofString "over"))=false:=by decide +kernel
theorem sq_out_begin:((Str.ofString "out") == (Str.ofString "begin"))=false:=by decide +kernel
theorem sq_out_start:((Str.ofString "out") == (Str.ofString "start"))=false:=by decide +kernel
theorem sq_out_short:((Str.ofString "out") == (Str.ofString "short"))=false:=by decide +kernel
theorem sq_out_along:((Str.ofString "out") == (Str.ofString "along"))=false:=by decide +kernel
theorem sq_out_within:((Str.ofString "out") == (Str.ofString "within"))=false:=by decide +kernel
theorem sq_out_at:((Str.ofString "out") == (Str.ofString "at"))=false:=by decide +kernel
theorem sq_out_out:((Str.ofString "out") == (Str.ofString "out"))=true:=by decide +kernel
end CM
namespace CM
open PySem L2 DL
inductive Kind where
 |step (t:List Nat) | call (g:Nat) (into back over:List Nat)
structure Edge where
 p:Nat
 q:Nat
 cost:Nat
 k:Kind
structure Fn where
 places:Nat
 facts:Nat
 edges:List Edge
noncomputable abbrev Chart:=List Fn
inductive Mv where | step | over | inn
 deriving DecidableEq
noncomputable def Mv.w:Mv→Str | .step=> "step" | .over=> "over" | .inn=> "in"
inductive Clm where
 |within (f a p d c:Nat) | at (f p d c:Nat)
inductive Row where
 |begin (f d:Int) | mv (w:Mv) (k n e:Int) | short (k n j e:Int) | start (d:Int) | along (k j:Int)
noncomputable abbrev nD(n:Nat):D:=.int (n:Int)
noncomputable def tD(t:List Nat):D:=.tup (t.map nD)
noncomputable def eD(e:Edge):D:=match e.k with
 |.step t=>.tup [.str "step",nD e.p,nD e.q,nD e.cost,tD t]
 |.call g i b o=>.tup [.str "call",nD e.p,nD e.q,nD e.cost,nD g,tD i,tD b,tD o]
noncomputable def clD:Clm→D
 |.within f a p d c=>.tup [.str "within",nD f,nD a,nD p,nD d,nD c]
 |.at f p d c=>.tup [.str "at",nD f,nD p,nD d,nD c]
noncomputable def rD:Row→D
 |.begin f d=>.tup [.str "begin",.int f,.int d]
 |.mv w k n e=>.tup [.str w.w,.int k,.int n,.int e]
 |.short k n j e=>.tup [.str "short",.int k,.int n,.int j,.int e]
 |.start d=>.tup [.str "start",.int d]
 |.along k j=>.tup [.str "along",.int k,.int j]
noncomputable def oD{α:Type}(f:α→D):Option α→D | none=>.non | some a=>f a
noncomputable def Edge.word(e:Edge):Str:=match e.k with | .step _=> "step" | .call _ _ _ _=> "call"
noncomputable def Edge.isStep(e:Edge):Bool:=match e.k with | .step _=>true | .call _ _ _ _=>false
theorem eD_0(h:Hh)(e:Edge):ixD h (eD e) (.int 0)=some (.str e.word):=by
 unfold eD Edge.word;cases e.k <;> exact atI_0 ..
theorem eD_1(h:Hh)(e:Edge):ixD h (eD e) (.int 1)=some (nD e.p):=by
 unfold eD;cases e.k <;> exact atI_1 ..
theorem eD_2(h:Hh)(e:Edge):ixD h (eD e) (.int 2)=some (nD e.q):=by
 unfold eD;cases e.k <;> exact atI_2 ..
theorem eD_3(h:Hh)(e:Edge):ixD h (eD e) (.int 3)=some (nD e.cost):=by
 unfold eD;cases e.k <;> exact atI_3 ..
theorem eD_non(e:Edge):isNon (eD e)=false:=by unfold eD;cases e.k <;> rfl
theorem clD_non(c:Clm):isNon (clD c)=false:=by cases c <;> rfl
noncomputable def tOk(t:List Nat)(n m:Nat):Prop:=t.length=n∧∀ x ∈ t,x < 2 ^ m
noncomputable def eOk(C:Chart)(F:Fn)(e:Edge):Prop:=e.p < F.places∧e.q < F.places∧1 ≤ e.cost∧e.cost ≤ 10 ^ 18∧match e.k with
 |.step t=>tOk t F.facts F.facts
 |.call g i b o=>∃ G,C[g]?=some G∧tOk i F.facts G.facts∧tOk b G.facts F.facts∧tOk o F.facts F.facts
structure WF(C:Chart):Prop where
 one:1 ≤ C.length
 six:C.length ≤ 6
 fn:∀ (f:Nat) (F:Fn),C[f]?=some F→1 ≤ F.places∧F.places ≤ 10∧1 ≤ F.facts∧F.facts ≤ 6∧F.edges.length ≤ 100∧∀ e ∈ F.edges,eOk C F e
noncomputable def ChD(h:Hh)(d:D)(C:Chart):Prop:=∃ fs,lsOf h d=some fs∧fs.length=C.length∧∀ (i:Nat) (F:Fn),C[i]?=some F→∃ e,fs[i]?=some (.tup [nD F.places,nD F.facts,e])∧lsOf h e=some (F.edges.map eD)
theorem ChD.mono{h h':Hh}{d:D}{C:Chart}(p:Pre h h')(c:ChD h d C):ChD h' d C:=by
 obtain ⟨fs,h1,h2,h3⟩:=c
 exact ⟨fs,p.ls h1,h2,fun i F e=>let ⟨x,a,b⟩:=h3 i F e;⟨x,a,p.ls b⟩⟩
theorem ChD.fn{h:Hh}{d:D}{C:Chart}(c:ChD h d C){f:Nat}{F:Fn}(e:C[f]?=some F):∃ x,ixD h d (nD f)=some (.tup [nD F.places,nD F.facts,x])∧lsOf h x=some (F.edges.map eD):=by
 obtain ⟨fs,h1,h2,h3⟩:=c
 obtain ⟨x,a,b⟩:=h3 f F e
 exact ⟨x,by rw [ix_ls h1,atN];exact a,b⟩
theorem ChD.len{h:Hh}{d:D}{C:Chart}(c:ChD h d C):lenD h d=some C.length:=by
 obtain ⟨fs,h1,h2,h3⟩:=c
 rw [len_ls h1,h2]
noncomputable def fD(F:Fn):D:=.tup [nD F.places,nD F.facts,.lst (F.edges.map eD)]
noncomputable def cD(C:Chart):D:=.lst (C.map fD)
theorem ChD.of(h:Hh)(C:Chart):ChD h (cD C) C:=⟨C.map fD,rfl,by simp,fun i F e=>⟨.lst (F.edges.map eD),by rw [List.getElem?_map,e];rfl,rfl⟩⟩
theorem band1(x:Nat):Builtin.bitAnd (x:Int) 1=((x % 2:Nat):Int):=by
 unfold Builtin.bitAnd
 rw [decide_eq_true (show (0:Int) ≤ (x:Int) by omega),decide_eq_true (show (0:Int) ≤ 1 by decide)]
 show (((x:Int).toNat &&& (1:Int).toNat:Nat):Int)=_
 have e1:((x:Int).toNat)=x:=by omega
 have e2:((1:Int).toNat)=1:=rfl
 rw [e1,e2,Nat.and_one_is_mod]
theorem shr_nat(m d:Nat):(m:Int) / 2 ^ d=((m / 2 ^ d:Nat):Int):=by
 have e:(2:Int) ^ d=((2 ^ d:Nat):Int):=by simp
 rw [e];exact (Int.natCast_ediv m (2 ^ d)).symm
theorem bitI(m d:Nat):Builtin.bitAnd ((m:Int) / 2 ^ d) 1=if m.testBit d then 1 else 0:=by
 rw [shr_nat,band1,Nat.testBit_eq_decide_div_mod_eq]
 have:=Nat.mod_two_eq_zero_or_one (m / 2 ^ d)
 rcases this with h | h <;> simp [h]
theorem bitT(m d:Nat):(Builtin.bitAnd ((m:Int) / 2 ^ d) 1 != 0)=m.testBit d:=by
 rw [bitI];cases m.testBit d <;> rfl
theorem bitE(m d:Nat):(Builtin.bitAnd ((m:Int) / 2 ^ d) 1 == 1)=m.testBit d:=by
 rw [bitI];cases m.testBit d <;> rfl
theorem band_nat(a b:Nat):Builtin.bitAnd (a:Int) (b:Int)=((a &&& b:Nat):Int):=by
 unfold Builtin.bitAnd
 rw [decide_eq_true (show (0:Int) ≤ (a:Int) by omega),decide_eq_true (show (0:Int) ≤ (b:Int) by omega)]
 show (((a:Int).toNat &&& (b:Int).toNat:Nat):Int)=_
 simp
theorem bor_nat(a b:Nat):Builtin.bitOr (a:Int) (b:Int)=((a ||| b:Nat):Int):=by
 unfold Builtin.bitOr Builtin.bitAnd Builtin.bitNot
 rw [decide_eq_false (show ¬ (0:Int) ≤ -(a:Int) - 1 by omega),decide_eq_false (show ¬ (0:Int) ≤ -(b:Int) - 1 by omega)]
 dsimp only
 rw [show (-(-(a:Int) - 1) - 1).toNat=a by omega,show (-(-(b:Int) - 1) - 1).toNat=b by omega]
 omega
theorem shl1(k:Nat):(1:Int) * 2 ^ ((k:Nat):Int).toNat=((2 ^ k:Nat):Int):=by
 rw [Int.one_mul,Int.toNat_natCast];simp
theorem nrD_tD(t:List Nat):nrD (tD t)=true:=nrDs_map (fun _=>rfl) t
theorem nrD_eD(e:Edge):nrD (eD e)=true:=by
 unfold eD
 cases e.k with
 |step t=>show (true && (true && (true && (true && (nrD (tD t) && true)))))=true;rw [nrD_tD];rfl
 |call g i b o=>show (true && (true && (true && (true && (true && (nrD (tD i) && (nrD (tD b) && (nrD (tD o) && true))))))))=true;rw [nrD_tD,nrD_tD,nrD_tD];rfl
theorem nrD_clD(c:Clm):nrD (clD c)=true:=by cases c <;> rfl
theorem nrD_rD(r:Row):nrD (rD r)=true:=by cases r <;> rfl
noncomputable def factsN(m:Nat):List Nat:=(List.range (Builtin.Int.intBits (m:Int))).filter fun d=>m.testBit d
theorem bits_lt{m n:Nat}(h:m < 2 ^ n):Builtin.Int.intBits (m:Int) ≤ n:=intBits_le_iff.mpr (by simpa using h)
theorem bit_hi{m e:Nat}(h:Builtin.Int.intBits (m:Int) ≤ e):m.testBit e=false:=by
 have:=intBits_le_iff.mp h
 exact Nat.testBit_lt_two_pow (by simpa using this)
theorem mem_facts{m e:Nat}:e ∈ factsN m ↔ m.testBit e=true:=by
 unfold factsN
 rw [List.mem_filter,List.mem_range]
 refine ⟨fun q=>q.2,fun q=>⟨?_,q⟩⟩
 rcases Nat.lt_or_ge e (Builtin.Int.intBits (m:Int)) with x | x
 ·exact x
 ·rw [bit_hi x] at q;cases q
noncomputable def br(t:List Nat)(d:Nat)(e:Int):Bool:=decide (0 ≤ e) && (t.getD d 0).testBit e.toNat
theorem inF_facts(m:Nat)(e:Int):inF (.int e) ((factsN m).map nD)=(decide (0 ≤ e) && m.testBit e.toNat):=by
 rw [Bool.eq_iff_iff]
 unfold inF
 rw [List.any_map,List.any_eq_true,Bool.and_eq_true,decide_eq_true_iff]
 constructor
 ·rintro ⟨x,hx,he⟩
  have he:(x:Int)=e:=by simpa [eqF] using he
  subst he
  exact ⟨by omega,by simpa using mem_facts.mp hx⟩
 ·rintro ⟨h0,hb⟩
  exact ⟨e.toNat,mem_facts.mpr hb,by simp [eqF];omega⟩
theorem flat_ints(ns:List Nat):(ns.map nD).all flatD=true:=by
 rw [List.all_map];simp [flatD,List.all_eq_true]
theorem tOk.get{t:List Nat}{n m d:Nat}(h:tOk t n m)(hd:d < n):t[d]?=some (t.getD d 0)∧t.getD d 0 < 2 ^ m:=by
 obtain ⟨h1,h2⟩:=h
 have hl:d < t.length:=by omega
 rw [List.getD_eq_getElem?_getD,List.getElem?_eq_getElem hl]
 exact ⟨rfl,h2 _ (List.getElem_mem hl)⟩
theorem tD_ix(h:Hh){t:List Nat}{n m d:Nat}(ht:tOk t n m)(hd:d < n):ixD h (tD t) (nD d)=some (nD (t.getD d 0)):=by
 show atI (t.map nD) (d:Int)=_
 rw [atN,List.getElem?_map,(ht.get hd).1];rfl
theorem pow64{x m:Nat}(hx:x < 2 ^ m)(hm:m ≤ 6):x < 64:=Nat.lt_of_lt_of_le hx (Nat.pow_le_pow_right (n:=2) (by decide) hm)
noncomputable def edgeAt(C:Chart)(f:Nat)(n:Int):Option Edge:=if 0 ≤ n then (C[f]?).bind fun F=>F.edges[n.toNat]? else none
noncomputable def Edge.tab(e:Edge)(w:Mv):List Nat:=match w,e.k with
 |.step,.step t=>t
 |.inn,.call _ i _ _=>i
 |.over,.call _ _ _ o=>o
 |_,_=>[]
noncomputable def takes(C:Chart)(f p d:Nat)(w:Mv)(n e:Int):Option Edge:=(edgeAt C f n).bind fun E=>if (E.isStep == (w == .step))=true∧E.p=p∧br (E.tab w) d e=true then some E else none
noncomputable def ahead(cs:List Clm)(k:Int):Option Clm:=if 0 ≤ k then cs[k.toNat]? else none
noncomputable def claimOf(C:Chart)(st:Nat)(cs:List Clm):Row→Option Clm
 |.begin f d=>if 0 ≤ f∧0 ≤ d then (C[f.toNat]?).bind fun F=>if d < F.facts then some (.within f.toNat d.toNat 0 d.toNat 0) else none else none
 |.start d=>if 0 ≤ d then (C[0]?).bind fun F=>if d < F.facts∧st.testBit d.toNat=true then some (.at 0 0 d.toNat 0) else none else none
 |.mv .inn k n e=>match ahead cs k with
  |some (.at f p d c)=>(takes C f p d .inn n e).bind fun E=>match E.k with | .call g _ _ _=>some (.at g 0 e.toNat (c + E.cost)) | _=>none
  |_=>none
 |.mv w k n e=>match ahead cs k with
  |some (.within f a p d c)=>(takes C f p d w n e).map fun E=>.within f a E.q e.toNat (c + E.cost)
  |_=>none
 |.short k n j e=>match ahead cs k,ahead cs j with
  |some (.within f a p d c),some (.within g b x y c')=>(takes C f p d .inn n b).bind fun E=>match E.k with
   |.call g' _ bk _=>(C[g']?).bind fun G=>if g'=g∧x + 1=G.places∧br bk y e=true then some (.within f a E.q e.toNat (c + E.cost + c')) else none
   |_=>none
  |_,_=>none
 |.along k j=>match ahead cs k,ahead cs j with
  |some (.at f p a c),some (.within g b q d c')=>if p=0∧g=f∧b=a then some (.at f q d (c + c')) else none
  |_,_=>none
theorem takes_inv{C:Chart}{f p d:Nat}{w:Mv}{n e:Int}{E:Edge}(ht:takes C f p d w n e=some E):edgeAt C f n=some E∧(E.isStep == (w == .step))=true∧E.p=p∧br (E.tab w) d e=true∧0 ≤ e:=by
 unfold takes at ht
 cases q3:edgeAt C f n with
 |none=>rw [q3] at ht;cases ht
 |some E' =>
  rw [q3] at ht
  have ht:(if (E'.isStep == (w == .step))=true∧E'.p=p∧br (E'.tab w) d e=true then some E' else none)=some E:=ht
  split at ht
  ·rename_i z
   cases ht
   refine ⟨rfl,z.1,z.2.1,z.2.2,?_⟩
   have:=z.2.2
   unfold br at this
   rw [Bool.and_eq_true] at this
   exact of_decide_eq_true this.1
  ·cases ht
theorem edgeAt_inv{C:Chart}{f:Nat}{n:Int}{E:Edge}(h:edgeAt C f n=some E):∃ F,0 ≤ n∧C[f]?=some F∧F.edges[n.toNat]?=some E:=by
 unfold edgeAt at h
 split at h
 ·rename_i h0
  cases q:C[f]? with
  |none=>rw [q] at h;cases h
  |some F=>rw [q] at h;exact ⟨F,h0,rfl,h⟩
 ·cases h
theorem takes_in{C:Chart}(wf:WF C){f p d:Nat}{n e:Int}{E:Edge}(ht:takes C f p d .inn n e=some E):∃ F g i b o G,C[f]?=some F∧E.k = .call g i b o∧C[g]?=some G∧tOk i F.facts G.facts∧tOk b G.facts F.facts∧tOk o F.facts F.facts∧E.q < F.places∧E.p=p∧br i d e=true∧0 ≤ e:=by
 obtain ⟨h1,h2,h3,h4,h5⟩:=takes_inv ht
 obtain ⟨F,h0,hF,hE⟩:=edgeAt_inv h1
 obtain ⟨o1,o2,o3,o4,o5⟩:=(wf.fn f F hF).2.2.2.2.2 E (List.mem_of_getElem? hE)
 obtain ⟨p',q',c',k'⟩:=E
 cases k' with
 |step t=>cases h2
 |call g i b o =>
  obtain ⟨G,hG,t1,t2,t3⟩:=o5
  exact ⟨F,g,i,b,o,G,hF,rfl,hG,t1,t2,t3,o2,h3,h4,h5⟩
noncomputable def clOk(C:Chart):Clm→Prop
 |.within f a p d _=>∃ F,C[f]?=some F∧a < F.facts∧p < F.places∧d < F.facts
 |.at f p d _=>∃ F,C[f]?=some F∧p < F.places∧d < F.facts
theorem ahead_ok{C:Chart}{cs:List Clm}(ok:∀ c ∈ cs,clOk C c){k:Int}{c:Clm}(h:ahead cs k=some c):clOk C c:=by
 unfold ahead at h
 split at h
 ·exact ok c (List.mem_of_getElem? h)
 ·cases h
noncomputable def allClaims(C:Chart)(st:Nat):List Row→List Clm→Option (List Clm)
 |[],cs=>some cs
 |r :: rs,cs=>(claimOf C st cs r).bind fun c=>allClaims C st rs (cs ++ [c])
theorem claim_ok{C:Chart}(wf:WF C){st:Nat}{cs:List Clm}{r:Row}{c:Clm}(ok:∀ c ∈ cs,clOk C c)(h:claimOf C st cs r=some c):clOk C c:=by
 have bt:∀ {t:List Nat} {n m d:Nat} {e:Int},tOk t n m→d < n→br t d e=true→e.toNat < m:=fun {t n m d e} ht hd hb=>by
  unfold br at hb
  rw [Bool.and_eq_true] at hb
  have hx:=(ht.get hd).2
  rcases Nat.lt_or_ge e.toNat m with z | z
  ·exact z
  ·rw [Nat.testBit_lt_two_pow (Nat.lt_of_lt_of_le hx (Nat.pow_le_pow_right (by decide) z))] at hb
   exact absurd hb.2 Bool.false_ne_true
 cases r with
 |begin f d =>
  have h:(if 0 ≤ f∧0 ≤ d then (C[f.toNat]?).bind fun F=>if d < F.facts then some (Clm.within f.toNat d.toNat 0 d.toNat 0) else none else none)=some c:=h
  split at h
  ·rename_i z
   cases q:C[f.toNat]? with
   |none=>rw [q] at h;cases h
   |some F =>
    rw [q] at h
    have h:(if d < F.facts then some (Clm.within f.toNat d.toNat 0 d.toNat 0) else none)=some c:=h
    split at h
    ·cases h;exact ⟨F,q,by omega,(wf.fn _ F q).1,by omega⟩
    ·cases h
  ·cases h
 |start d =>
  have h:(if 0 ≤ d then (C[0]?).bind fun F=>if d < F.facts∧st.testBit d.toNat=true then some (Clm.at 0 0 d.toNat 0) else none else none)=some c:=h
  split at h
  ·cases q:C[0]? with
   |none=>rw [q] at h;cases h
   |some F =>
    rw [q] at h
    have h:(if d < F.facts∧st.testBit d.toNat=true then some (Clm.at 0 0 d.toNat 0) else none)=some c:=h
    split at h
    ·rename_i z z2
     cases h;exact ⟨F,q,(wf.fn _ F q).1,by omega⟩
    ·cases h
  ·cases h
 |mv w k n e =>
  cases w with
  |inn =>
   have h:(match ahead cs k with
    |some (.at f p d c)=>(takes C f p d .inn n e).bind fun E=>match E.k with | .call g _ _ _=>some (Clm.at g 0 e.toNat (c + E.cost)) | _=>none
    |_=>none)=some c:=h
   cases q:ahead cs k with
   |none=>rw [q] at h;cases h
   |some x =>
    rw [q] at h
    cases x with
    |within f a p d x=>cases h
    |«at» f p d x =>
     obtain ⟨F,hF,o1,o2⟩:=ahead_ok ok q
     dsimp only at h
     cases ht:takes C f p d .inn n e with
     |none=>rw [ht] at h;cases h
     |some E =>
      rw [ht] at h
      obtain ⟨F',g,i,b,o,G,hF',hk',hG,t1,t2,t3,_,_,hb,_⟩:=takes_in wf ht
      rw [hF] at hF';cases hF'
      have h:(match E.k with | .call g _ _ _=>some (Clm.at g 0 e.toNat (x + E.cost)) | _=>none)=some c:=h
      rw [hk'] at h
      cases h
      exact ⟨G,hG,(wf.fn g G hG).1,bt t1 o2 hb⟩
  |step =>
   have h:(match ahead cs k with | some (.within f a p d c)=>(takes C f p d .step n e).map fun E=>Clm.within f a E.q e.toNat (c + E.cost) | _=>none)=some c:=h
   cases q:ahead cs k with
   |none=>rw [q] at h;cases h
   |some x =>
    rw [q] at h
    cases x with
    |«at» f p d x=>cases h
    |within f a p d x =>
     obtain ⟨F,hF,o1,o2,o3⟩:=ahead_ok ok q
     dsimp only at h
     cases ht:takes C f p d .step n e with
     |none=>rw [ht] at h;cases h
     |some E =>
      rw [ht] at h
      cases h
      obtain ⟨h1,h2,h3,h4,h5⟩:=takes_inv ht
      obtain ⟨F',_,hF',hE⟩:=edgeAt_inv h1
      rw [hF] at hF';cases hF'
      obtain ⟨e1,e2,e3,e4,e5⟩:=(wf.fn f F hF).2.2.2.2.2 E (List.mem_of_getElem? hE)
      obtain ⟨ep,eq,ec,ek⟩:=E
      cases ek with
      |step t=>exact ⟨F,hF,o1,e2,bt e5 o3 h4⟩
      |call g i b o=>cases h2
  |over =>
   have h:(match ahead cs k with | some (.within f a p d c)=>(takes C f p d .over n e).map fun E=>Clm.within f a E.q e.toNat (c + E.cost) | _=>none)=some c:=h
   cases q:ahead cs k with
   |none=>rw [q] at h;cases h
   |some x =>
    rw [q] at h
    cases x with
    |«at» f p d x=>cases h
    |within f a p d x =>
     obtain ⟨F,hF,o1,o2,o3⟩:=ahead_ok ok q
     dsimp only at h
     cases ht:takes C f p d .over n e with
     |none=>rw [ht] at h;cases h
     |some E =>
      rw [ht] at h
      cases h
      obtain ⟨h1,h2,h3,h4,h5⟩:=takes_inv ht
      obtain ⟨F',_,hF',hE⟩:=edgeAt_inv h1
      rw [hF] at hF';cases hF'
      obtain ⟨e1,e2,e3,e4,e5⟩:=(wf.fn f F hF).2.2.2.2.2 E (List.mem_of_getElem? hE)
      obtain ⟨ep,eq,ec,ek⟩:=E
      cases ek with
      |step t=>cases h2
      |call g i b o =>
       obtain ⟨G,hG,t1,t2,t3⟩:=e5
       exact ⟨F,hF,o1,e2,bt t3 o3 h4⟩
 |short k n j e =>
  have h:(match ahead cs k,ahead cs j with
   |some (.within f a p d c),some (.within g b x y c')=>(takes C f p d .inn n b).bind fun E=>match E.k with
    |.call g' _ bk _=>(C[g']?).bind fun G=>if g'=g∧x + 1=G.places∧br bk y e=true then some (Clm.within f a E.q e.toNat (c + E.cost + c')) else none
    |_=>none
   |_,_=>none)=some c:=h
  cases q:ahead cs k with
  |none=>rw [q] at h;cases h
  |some x1 =>
   cases q2:ahead cs j with
   |none=>rw [q,q2] at h;cases x1 <;> cases h
   |some x2 =>
    rw [q,q2] at h
    cases x1 with
    |«at» f p d x=>cases h
    |within f a p d x =>
     cases x2 with
     |«at» f p d x=>cases h
     |within g b px y x' =>
      obtain ⟨F,hF,o1,o2,o3⟩:=ahead_ok ok q
      obtain ⟨G,hG,p1,p2,p3⟩:=ahead_ok ok q2
      dsimp only at h
      cases ht:takes C f p d .inn n b with
      |none=>rw [ht] at h;cases h
      |some E =>
       rw [ht] at h
       obtain ⟨F',g',i,bk,o,G',hF',hk',hG',t1,t2,t3,eq,_,hb,_⟩:=takes_in wf ht
       rw [hF] at hF';cases hF'
       have h:(match E.k with
        |.call g' _ bk _=>(C[g']?).bind fun G=>if g'=g∧px + 1=G.places∧br bk y e=true then some (Clm.within f a E.q e.toNat (x + E.cost + x')) else none
        |_=>none)=some c:=h
       rw [hk'] at h
       have h:((C[g']?).bind fun G=>if g'=g∧px + 1=G.places∧br bk y e=true then some (Clm.within f a E.q e.toNat (x + E.cost + x')) else none)=some c:=h
       rw [hG'] at h
       have h:(if g'=g∧px + 1=G'.places∧br bk y e=true then some (Clm.within f a E.q e.toNat (x + E.cost + x')) else none)=some c:=h
       by_cases z:g'=g∧px + 1=G'.places∧br bk y e=true
       ·rw [if_pos z] at h
        have h9:=Option.some.inj h
        obtain ⟨z1,z2,z3⟩:=z
        subst z1
        rw [hG] at hG';cases hG'
        rw [← h9]
        exact ⟨F,hF,o1,eq,bt t2 p3 z3⟩
       ·rw [if_neg z] at h;cases h
 |along k j =>
  have h:(match ahead cs k,ahead cs j with | some (.at f p a c),some (.within g b q d c')=>if p=0∧g=f∧b=a then some (Clm.at f q d (c + c')) else none | _,_=>none)=some c:=h
  cases q:ahead cs k with
  |none=>rw [q] at h;cases h
  |some x1 =>
   cases q2:ahead cs j with
   |none=>rw [q,q2] at h;cases x1 <;> cases h
   |some x2 =>
    rw [q,q2] at h
    cases x1 with
    |within f a p d x=>cases h
    |«at» f p d x =>
     cases x2 with
     |«at» f p d x=>cases h
     |within g b px y x' =>
      obtain ⟨G,hG,p1,p2,p3⟩:=ahead_ok ok q2
      have h:(if p=0∧g=f∧b=d then some (Clm.at f px y (x + x')) else none)=some c:=h
      split at h
      ·rename_i z
       obtain ⟨z1,z2,z3⟩:=z
       subst z2
       cases h
       exact ⟨G,hG,p2,p3⟩
      ·cases h
theorem allClaims_len{C:Chart}{st:Nat}:∀ {rs:List Row} {cs ds:List Clm},allClaims C st rs cs=some ds→ds.length=cs.length + rs.length
 |[],cs,ds,h=>by cases h;simp
 |r :: rs,cs,ds,h=>by
  have h:((claimOf C st cs r).bind fun c=>allClaims C st rs (cs ++ [c]))=some ds:=h
  cases q:claimOf C st cs r with
  |none=>rw [q] at h;cases h
  |some c =>
   rw [q] at h
   have:=allClaims_len (rs:=rs) h
   rw [this];simp;omega
end CM
namespace CM
open PySem L2 DL
noncomputable def Pd(h:Hh)(d:D)(p:PyData)(n:Nat):Prop:=IsP h d p∧p.canLay0=true∧p.depth ≤ n
noncomputable def Pds(h:Hh)(ds:List D)(ps:List PyData)(n:Nat):Prop:=IsPs h ds ps∧PyData.canLayAll0 ps=true∧PyData.depthAll ps ≤ n
theorem Pd.int{h:Hh}{n:Nat}(i:Int):Pd h (.int i) (.int i) n:=⟨.int i,rfl,Nat.zero_le _⟩
theorem Pd.str{h:Hh}{n:Nat}{x:Str}(e:PyData.strOk x=true):Pd h (.str x) (.str x) n:=⟨.str x,e,Nat.zero_le _⟩
theorem Pds.nil{h:Hh}{n:Nat}:Pds h [] [] n:=⟨.nil,rfl,Nat.zero_le _⟩
theorem Pds.cons{h:Hh}{n:Nat}{d:D}{p:PyData}{ds:List D}{ps:List PyData}(a:Pd h d p n)(b:Pds h ds ps n):Pds h (d :: ds) (p :: ps) n :=
 ⟨.cons a.1 b.1,by show (p.canLay0 && PyData.canLayAll0 ps)=true;rw [a.2.1,b.2.1];rfl,by show max p.depth (PyData.depthAll ps) ≤ n;exact Nat.max_le.mpr ⟨a.2.2,b.2.2⟩⟩
theorem Pd.tup{h:Hh}{n:Nat}{ds:List D}{ps:List PyData}(a:Pds h ds ps n):Pd h (.tup ds) (.tuple ps) (n + 1):=⟨.tup a.1,a.2.1,Nat.succ_le_succ a.2.2⟩
theorem Pd.lst{h:Hh}{n:Nat}{ds:List D}{ps:List PyData}(a:Pds h ds ps n):Pd h (.lst ds) (.list ps) (n + 1):=⟨.lst a.1,a.2.1,Nat.succ_le_succ a.2.2⟩
theorem Pd.ref{h:Hh}{n i:Nat}{ds:List D}{ps:List PyData}(e:h[i]?=some (.lst ds))(a:Pds h ds ps n):Pd h (.ref i) (.list ps) (n + 1):=⟨.ref e a.1,a.2.1,Nat.succ_le_succ a.2.2⟩
theorem Pds.map{τ:Type}{h:Hh}{n:Nat}{f:τ→D}{g:τ→PyData}:∀ {xs:List τ},(∀ x,Pd h (f x) (g x) n)→Pds h (xs.map f) (xs.map g) n
 |[],_=>.nil
 |x :: xs,k=>.cons (k x) (Pds.map k)
theorem Pds.get{h:Hh}{n:Nat}:∀ {ds:List D} {ps:List PyData},ds.length=ps.length→(∀ (i:Nat) (d:D) (p:PyData),ds[i]?=some d→ps[i]?=some p→Pd h d p n)→Pds h ds ps n
 |[],[],_,_=>.nil
 |d :: ds,p :: ps,e,k=>.cons (k 0 d p rfl rfl) (Pds.get (by simpa using e) fun i a b h1 h2=>k (i + 1) a b (by simpa using h1) (by simpa using h2))
theorem Pd.shaped{h:Hh}{n:Nat}{d:D}{p:PyData}(a:Pd h d p n)(e:n ≤ 64):SeqAt.shaped p=true:=by
 unfold SeqAt.shaped
 rw [a.2.1,decide_eq_true (Nat.le_trans a.2.2 e)];rfl
theorem pEq_same{neg:Bool}{x y:D}{h:Hh}{Q:DK}{p:PyData}{n:Nat}(e:eqS x y=none)(a:Pd h x p n)(b:Pd h y p n)(hn:n ≤ 64)(q:Q (.bl (!neg)) h):pEq neg x y h Q:=by
 unfold pEq
 rw [e]
 refine ⟨p,p,a.1,b.1,a.shaped hn,b.shaped hn,?_⟩
 rw [SeqAt.eqv_refl p a.2.1]
 cases neg <;> exact q
noncomputable def tP(t:List Nat):PyData:=.tuple (t.map fun x:Nat=>.int (x:Int))
noncomputable def eP(e:Edge):PyData:=match e.k with
 |.step t=>.tuple [.str "step",.int e.p,.int e.q,.int e.cost,tP t]
 |.call g i b o=>.tuple [.str "call",.int e.p,.int e.q,.int e.cost,.int g,tP i,tP b,tP o]
noncomputable def clP:Clm→PyData
 |.within f a p d c=>.tuple [.str "within",.int f,.int a,.int p,.int d,.int c]
 |.at f p d c=>.tuple [.str "at",.int f,.int p,.int d,.int c]
noncomputable def rP:Row→PyData
 |.begin f d=>.tuple [.str "begin",.int f,.int d]
 |.mv w k n e=>.tuple [.str w.w,.int k,.int n,.int e]
 |.short k n j e=>.tuple [.str "short",.int k,.int n,.int j,.int e]
 |.start d=>.tuple [.str "start",.int d]
 |.along k j=>.tuple [.str "along",.int k,.int j]
theorem pd_t(h:Hh)(t:List Nat):Pd h (tD t) (tP t) 1:=Pd.tup (n:=0) (Pds.map fun x=>.int _)
theorem pd_e(h:Hh)(e:Edge):Pd h (eD e) (eP e) 2:=by
 unfold eD eP
 cases e.k with
 |step t=>exact .tup (.cons (.str sk_step) (.cons (.int _) (.cons (.int _) (.cons (.int _) (.cons (pd_t h t) .nil)))))
 |call g i b o=>exact .tup (.cons (.str sk_call) (.cons (.int _) (.cons (.int _) (.cons (.int _) (.cons (.int _) (.cons (pd_t h i) (.cons (pd_t h b) (.cons (pd_t h o) .nil))))))))
theorem pd_cl(h:Hh)(c:Clm):Pd h (clD c) (clP c) 1:=by
 cases c with
 |within=>exact .tup (.cons (.str sk_within) (.cons (.int _) (.cons (.int _) (.cons (.int _) (.cons (.int _) (.cons (.int _) .nil))))))
 |«at»=>exact .tup (.cons (.str sk_at) (.cons (.int _) (.cons (.int _) (.cons (.int _) (.cons (.int _) .nil)))))
theorem pd_r(h:Hh)(r:Row):Pd h (rD r) (rP r) 1:=by
 cases r with
 |begin=>exact .tup (.cons (.str sk_begin) (.cons (.int _) (.cons (.int _) .nil)))
 |mv w=>exact .tup (.cons (.str (by cases w with | step=>exact sk_step | over=>exact sk_over | inn=>exact sk_in)) (.cons (.int _) (.cons (.int _) (.cons (.int _) .nil))))
 |short=>exact .tup (.cons (.str sk_short) (.cons (.int _) (.cons (.int _) (.cons (.int _) (.cons (.int _) .nil)))))
 |start=>exact .tup (.cons (.str sk_start) (.cons (.int _) .nil))
 |along=>exact .tup (.cons (.str sk_along) (.cons (.int _) (.cons (.int _) .nil)))
noncomputable def fP(F:Fn):PyData:=.tuple [.int F.places,.int F.facts,.list (F.edges.map eP)]
theorem pd_f(h:Hh)(F:Fn):Pd h (fD F) (fP F) 4:=.tup (.cons (.int _) (.cons (.int _) (.cons (.lst (Pds.map (pd_e h))) .nil)))
theorem pd_c(h:Hh)(C:Chart):Pd h (cD C) (.list (C.map fP)) 5:=.lst (Pds.map (pd_f h))
theorem pd_cr{h:Hh}{n:Nat}{C:Chart}(k:∀ (i:Nat) (F:Fn),C[i]?=some F→h[n + i]?=some (.lst (F.edges.map eD))):Pd h (.lst (C.zipIdx.map fun x=>.tup [nD x.1.places,nD x.1.facts,.ref (n + x.2)])) (.list (C.map fP)) 5:=by
 refine .lst (Pds.get (by simp) fun i d p hd hp=>?_)
 rw [List.getElem?_map] at hp hd
 rw [List.getElem?_zipIdx] at hd
 cases q:C[i]? with
 |none=>rw [q] at hp;cases hp
 |some F =>
  rw [q] at hp hd;cases hp;cases hd
  exact .tup (.cons (.int _) (.cons (.int _) (.cons (.ref (by have:=k i F q;simpa using this) (Pds.map (pd_e h))) .nil)))
end CM
namespace CM
open PySem L2 DL
inductive Mo where
 |go (w:Mv) (k e:Nat) | out (e:Nat)
structure Spot where
 f:Nat
 p:Nat
 d:Nat
 cost:Nat
 op:List (Nat×Nat)
noncomputable def stOk(C:Chart):Nat→List (Nat×Nat)→Prop
 |_,[]=>True
 |f,x :: r=>∃ G E i b o,C[x.1]?=some G∧G.edges[x.2]?=some E∧E.k = .call f i b o∧stOk C x.1 r
noncomputable def sOk(C:Chart)(s:Spot):Prop:=∃ F,C[s.f]?=some F∧s.p < F.places∧s.d < F.facts∧stOk C s.f s.op
inductive Nx(C:Chart):Spot→Mo→Spot→Prop
 |go {s:Spot} {w:Mv} {k e:Nat} {E:Edge}:w ≠ .inn→takes C s.f s.p s.d w (k:Int) (e:Int)=some E→Nx C s (.go w k e) ⟨s.f,E.q,e,s.cost + E.cost,s.op⟩
 |inn {s:Spot} {k e:Nat} {E:Edge} {g:Nat} {i b o:List Nat}:takes C s.f s.p s.d .inn (k:Int) (e:Int)=some E→E.k = .call g i b o→Nx C s (.go .inn k e) ⟨g,0,e,s.cost + E.cost,(s.f,k) :: s.op⟩
 |out {s:Spot} {x:Nat×Nat} {r:List (Nat×Nat)} {e:Nat} {F G:Fn} {E:Edge} {g:Nat} {i b o:List Nat}:s.op=x :: r→C[s.f]?=some F→s.p + 1=F.places→C[x.1]?=some G→G.edges[x.2]?=some E→E.k = .call g i b o→br b s.d (e:Int)=true→Nx C s (.out e) ⟨x.1,E.q,e,s.cost,r⟩
structure Way(C:Chart)(fact:Nat)(ms:List Mo)(ss:List Spot):Prop where
 len:ss.length=ms.length + 1
 one:ss[0]?=some ⟨0,0,fact,0,[]⟩
 ok:∀ s ∈ ss,sOk C s
 nx:∀ (i:Nat) (m:Mo) (s s':Spot),ms[i]?=some m→ss[i]?=some s→ss[i + 1]?=some s'→Nx C s m s'
theorem Way.get{C:Chart}{fact:Nat}{ms:List Mo}{ss:List Spot}(W:Way C fact ms ss){i:Nat}(h:i ≤ ms.length):∃ s,ss[i]?=some s∧sOk C s:=by
 have hl:i < ss.length:=by rw [W.len];omega
 exact ⟨_,List.getElem?_eq_getElem hl,W.ok _ (List.getElem_mem hl)⟩
theorem src_pre{h:Hh}{d:D}{xs:List D}(e:lsOf h d=some xs):∃ w,(∀ h',Pre h h'→seqSrc h' d=some ⟨xs,w⟩)∧∀ ys h',Pre h h'→(Src.mk ys w).ok h':=by
 obtain ⟨w,e1,e2,e3⟩:=src_ls e
 refine ⟨w,fun h' p=>?_,fun ys h' p z hz=>p _ _ (e2 z hz)⟩
 obtain ⟨w',e4,e5,e6⟩:=src_ls (p.ls e)
 rw [e4]
 cases d with
 |lst ys=>cases e1;cases e4;rfl
 |scr ys=>cases e1;cases e4;rfl
 |ref i =>
  have e:(match h[i]? with | some (.lst xs)=>some xs | _=>none)=some xs:=e
  cases q:h[i]? with
  |none=>rw [q] at e;cases e
  |some o =>
   cases o with
   |lst ys =>
    rw [q] at e;cases e
    rw [seqSrc_ref q] at e1
    rw [seqSrc_ref (p _ _ q)] at e4
    cases e1;cases e4;rfl
   |dT _ _=>rw [q] at e;cases e
   |dK _=>rw [q] at e;cases e
   |ins _ _=>rw [q] at e;cases e
 |non=>cases e
 |bl _=>cases e
 |int _=>cases e
 |str _=>cases e
 |tup _=>cases e
 |exc _ _=>cases e
end CM
namespace CM
open PySem L2 DL
noncomputable def runC(C:Chart)(st:Nat):List Row→List Clm→Nat ⊕ List Clm
 |[],cs=>.inr cs
 |r :: rs,cs=>match claimOf C st cs r with | none=>.inl cs.length | some c=>runC C st rs (cs ++ [c])
theorem runC_none{C:Chart}{st:Nat}{r:Row}{rs:List Row}{cs:List Clm}(h:claimOf C st cs r=none):runC C st (r :: rs) cs = .inl cs.length:=by
 show (match claimOf C st cs r with | none=>Sum.inl cs.length | some c=>runC C st rs (cs ++ [c]))=_
 rw [h]
theorem runC_some{C:Chart}{st:Nat}{r:Row}{rs:List Row}{cs:List Clm}{c:Clm}(h:claimOf C st cs r=some c):runC C st (r :: rs) cs=runC C st rs (cs ++ [c]):=by
 show (match claimOf C st cs r with | none=>Sum.inl cs.length | some c=>runC C st rs (cs ++ [c]))=_
 rw [h]
theorem runC_all{C:Chart}{st:Nat}:∀ {rs:List Row} {cs ds:List Clm},allClaims C st rs cs=some ds→runC C st rs cs = .inr ds
 |[],cs,ds,h=>congrArg Sum.inr (Option.some.inj h)
 |r :: rs,cs,ds,h=>by
  have h:(claimOf C st cs r).bind (fun c=>allClaims C st rs (cs ++ [c]))=some ds:=h
  cases z:claimOf C st cs r with
  |none=>rw [z] at h;cases h
  |some c=>rw [z] at h;rw [runC_some z];exact runC_all h
noncomputable def dueD:Nat ⊕ List Clm→D
 |.inl n=>.tup [.str "no",nD n]
 |.inr cs=>.tup [.str "claims",.lst (cs.map clD)]
theorem row_shape(r:Row):∃ (w:Str) (is:List Int),rD r = .tup (.str w :: is.map D.int)∧1 ≤ is.length∧is.length ≤ 4∧∀ js:List Int,js.length=is.length→∃ r',rD r' = .tup (.str w :: js.map D.int):=by
 cases r with
 |begin f d=>exact ⟨"begin",[f,d],rfl,Nat.le_of_ble_eq_true rfl,Nat.le_of_ble_eq_true rfl,fun js e=>by match js,e with | [a,b],_=>exact ⟨.begin a b,rfl⟩⟩
 |start d=>exact ⟨"start",[d],rfl,Nat.le_of_ble_eq_true rfl,Nat.le_of_ble_eq_true rfl,fun js e=>by match js,e with | [a],_=>exact ⟨.start a,rfl⟩⟩
 |along k j=>exact ⟨"along",[k,j],rfl,Nat.le_of_ble_eq_true rfl,Nat.le_of_ble_eq_true rfl,fun js e=>by match js,e with | [a,b],_=>exact ⟨.along a b,rfl⟩⟩
 |mv w k n e=>exact ⟨w.w,[k,n,e],rfl,Nat.le_of_ble_eq_true rfl,Nat.le_of_ble_eq_true rfl,fun js e=>by match js,e with | [a,b,c],_=>exact ⟨.mv w a b c,rfl⟩⟩
 |short k n j e=>exact ⟨"short",[k,n,j,e],rfl,Nat.le_of_ble_eq_true rfl,Nat.le_of_ble_eq_true rfl,fun js e=>by match js,e with | [a,b,c,d],_=>exact ⟨.short a b c d,rfl⟩⟩
theorem cut_to(x:D)(is:List Int){j:Nat}(h:j < is.length):cutD (x :: is.map D.int) none (some ((1:Int) + (j:Int)))=x :: (is.take j).map D.int:=by
 unfold cutD HT.sIx
 dsimp only
 rw [if_neg (by omega),List.length_cons,List.length_map,show min ((1:Int) + (j:Int)).toNat (is.length + 1)=j + 1 by omega]
 show List.take (j + 1) (x :: is.map D.int)=_
 rw [List.take_succ_cons,List.map_take]
theorem cut_from(x:D)(is:List Int){j:Nat}(h:j < is.length):cutD (x :: is.map D.int) (some ((1:Int) + (j:Int) + 1)) none=(is.drop (j + 1)).map D.int:=by
 unfold cutD HT.sIx
 dsimp only
 rw [if_neg (by omega),List.length_cons,List.length_map,show min ((1:Int) + (j:Int) + 1).toNat (is.length + 1)=j + 2 by omega]
 rw [List.take_of_length_le (by simp)]
 show List.drop (j + 1) (is.map D.int)=_
 rw [List.map_drop]
theorem st_or{h:Hh}{i k:Nat}{s:Int}{o x:O}(e:h[i]?=some x)(hu:(h.set i (.lst [.int s]))[k]?=some o):h[k]?=some o∨nrO o=true:=by
 by_cases z:i=k
 ·subst z
  rw [List.getElem?_set_self (List.getElem?_eq_some_iff.mp e).1] at hu
  cases hu;exact .inr rfl
 ·rw [List.getElem?_set_ne z] at hu;exact .inl hu
noncomputable def isMv:Row→Bool
 |.mv _ _ _ _=>true
 |_=>false
theorem row0(r:Row):∃ w:Str,(∀ h,ixD h (rD r) (.int 0)=some (.str w))∧inF (.str w) [D.str "step",D.str "over",D.str "in"]=isMv r:=by
 cases r with
 |mv w k n e=>exact ⟨w.w,fun _=>rfl,by cases w <;> kernel_rfl⟩
 |begin f d=>exact ⟨"begin",fun _=>rfl,by kernel_rfl⟩
 |start d=>exact ⟨"start",fun _=>rfl,by kernel_rfl⟩
 |along k j=>exact ⟨"along",fun _=>rfl,by kernel_rfl⟩
 |short k n j e=>exact ⟨"short",fun _=>rfl,by kernel_rfl⟩
end CM
namespace CM
open PySem L2 DL
noncomputable def dueP:Nat ⊕ List Clm→PyData
 |.inl n=>.tuple [.str "no",.int n]
 |.inr cs=>.tuple [.str "claims",.list (cs.map clP)]
theorem pd_due(h:Hh)(x:Nat ⊕ List Clm):Pd h (dueD x) (dueP x) 3:=by
 cases x with
 |inl n=>exact .tup (.cons (.str (by kernel_rfl)) (.cons (.int _) .nil))
 |inr cs=>exact .tup (.cons (.str (by kernel_rfl)) (.cons (.lst (Pds.map (pd_cl h))) .nil))
theorem eqS_due(x:Nat ⊕ List Clm):eqS (dueD x) (dueD x)=none:=by cases x <;> rfl
end CM
namespace L2
open PySem PySem.Spec PyProof.Rows
structure Exc(h:Heap)(a:Addr)(cls:Value)(dx:Option Addr)(T:Option Addr)(fl:Value):Prop where
 ob:∃ o vs,h.get? a=some o∧o.cls=cls∧o.dict=dx∧o.data = .fields vs∧vs[1]?=some (T.elim .none .ref)
 tb:∀ t,T=some t→t ≠ a∧∃ o ts,h.get? t=some o∧o.data = .fields ts∧ts[3]?=some fl
structure Chg(fs:List Addr)(a:Addr)(T:Option Addr)(h h':Heap):Prop where
 keep:∀ b o,h.get? b=some o→b ∉ fs→b ≠ a→T ≠ some b→h'.get? b=some o
 slot:∀ b o,h.get? b=some o→b ≠ a→T ≠ some b→∃ sl,h'.get? b=some { o with slots:=sl }
 there:∀ b o,h.get? b=some o→∃ o',h'.get? b=some o'
section
variable {M:Model} {A:Around} {E:Value→Shared→Prop} {s:Shared} {env:Env} {outer:List Env} {L a:Addr} {cls:Value} {dx T:Option Addr} {fl:Value} {base:Heap}
theorem note_entry{head:Value}{hadNext:Bool}{oe:Obj}{vs:Array Value}{Q:Unit→Shared→Prop}(hfr:A.frames=some (env :: outer))(hl:s.heap.FunFrames base (env :: outer))(hf:env.frame=some L)
  (he:s.heap.get? a=some oe) (hd:oe.data = .fields vs) (hsz:1 < vs.size)
  (h:∀ h' t,Chg (frs (env :: outer)) a none s.heap h'→s.heap.objs.size ≤ t→Exc h' a oe.cls oe.dict (some t) (rawInt L)→Q () { s with heap:=h' }) :
  wpAny M A (do let a' ← frameOf env;let pl ← entryPlaceOf L hadNext;let b ← EntryCells.newEntry head a' .none (rawInt L) .none pl;setField (.ref a) 1 b) Q E s:=by
 have hene:a ∉ (env :: outer).filterMap (·.frame):=fun hm=>by
  obtain ⟨_,o,ho,hnf⟩:=hl.mem hm
  rw [he] at ho;injection ho with ho;subst ho;exact hnf vs hd
 refine wpAny_bind (wpAny_frameOf_fun hfr hl hf fun h₁ hs₁=>?_)
 refine wpAny_bind (wpAny_entryPlaceOf fun pl hpl=>?_)
 unfold EntryCells.newEntry newFields
 refine wpAny_bind (wpAny_newObj_type ?_ (hpl.sizeOk5 _ _ _ _ _))
 have he₁:h₁.get? a=some oe:=(hs₁.2.1 a hene).trans he
 have he₂:=Heap.get?_push_of_some (h:=h₁) { cls:=.type "traceback",dict:=none,data:=.fields ([head,.ref L,.none,rawInt L,.none] ++ (if pl.isEmpty then List.replicate 6 Value.none else pl)).toArray } he₁
 refine wpAny_setField he₂ hd hsz (h _ h₁.objs.size ⟨?_,?_,?_⟩ (by rw [hs₁.1];exact Nat.le_refl _) ?_)
 ·intro b o hb hnf hba _
  rw [Heap.get?_update_other _ _ (Ne.symm hba)]
  exact Heap.get?_push_of_some _ ((hs₁.2.1 b hnf).trans hb)
 ·intro b o hb hba _
  obtain ⟨sl,hs⟩:=hs₁.2.2 b o hb
  exact ⟨sl,by rw [Heap.get?_update_other _ _ (Ne.symm hba)];exact Heap.get?_push_of_some _ hs⟩
 ·intro b o hb
  obtain ⟨sl,hs⟩:=hs₁.2.2 b o hb
  by_cases hba:b=a
  ·subst hba
   exact ⟨_,Heap.get?_update_self _ he₂ (Obj.isFreed_of_fields (Obj.data_mapFields hd _))⟩
  ·exact ⟨_,by rw [Heap.get?_update_other _ _ (Ne.symm hba)];exact Heap.get?_push_of_some _ hs⟩
 ·have hTe:h₁.objs.size ≠ a:=Nat.ne_of_gt (Heap.lt_size he₁)
  have hd₃:=Obj.data_mapFields hd (·.setIfInBounds 1 (Value.ref h₁.objs.size))
  refine ⟨⟨_,_,Heap.get?_update_self _ he₂ (Obj.isFreed_of_fields hd₃),Obj.cls_mapFields _ _,?_,hd₃,by simp [hsz]⟩,fun t ht=>?_⟩
  ·obtain ⟨c,d,dt,sl⟩:=oe
   cases hd;rfl
  ·cases ht
   refine ⟨hTe,_,_,(Heap.get?_update_other _ _ (Ne.symm hTe)).trans (Heap.get?_push_size h₁ rfl),rfl,?_⟩
   first | (simp;done) | (rcases hpl with rfl | ⟨_,_,_,_,_,_,_,rfl⟩ <;> simp)
theorem note_ok{Q:Unit→Shared→Prop}(hfr:A.frames=some (env :: outer))(hl:s.heap.FunFrames base (env :: outer))(hf:env.frame=some L)(x:Exc s.heap a cls dx T fl)(hfl:fl = .none∨fl=rawInt L)
  (h:∀ h' t,Chg (frs (env :: outer)) a T s.heap h'→(T=some t∨s.heap.objs.size ≤ t)→Exc h' a cls dx (some t) (rawInt L)→Q () { s with heap:=h' }):wpAny M A (noteFrame (.ref a) env) Q E s:=by
 obtain ⟨⟨oe,vs,he,rfl,rfl,hd,h1⟩,tb⟩:=id x
 unfold noteFrame
 simp only [hf]
 refine wpAny_bind (wpAny_field he hd h1 ?_)
 cases T with
 |none =>
  rw [if_neg (by simp)]
  exact note_entry hfr hl hf he hd (Array.getElem?_eq_some_iff.mp h1).1 fun h' t c n e=>h h' t c (.inr n) e
 |some t =>
  obtain ⟨hte,oT,ts,hT,hdT,h3⟩:=tb t rfl
  show wpAny M A (if (Value.ref t != Value.none)=true then _ else _) Q E s
  rw [if_pos (show (Value.ref t != Value.none)=true from by simp)]
  refine wpAny_bind (wpAny_field hT hdT h3 ?_)
  rcases hfl with rfl | rfl
  ·rw [if_neg (show ¬ ((Value.none == rawInt L)=true) from by simp [rawInt])]
   refine wpAny_bind (wpAny_setField hT hdT (Array.getElem?_eq_some_iff.mp h3).1 ?_)
   have other:∀ b,b ≠ t→(s.heap.update t (Obj.mapFields (·.setIfInBounds 3 Value.none))).get? b=s.heap.get? b:=fun b hb=>Heap.get?_update_other _ _ (Ne.symm hb)
   have noRecord:∀ b o,s.heap.get? b=some o→(∀ vs,o.data ≠ .fields vs)→b ≠ t:=fun b o hb hnf q=>by
    rw [q,hT] at hb;injection hb with hb;subst hb;exact hnf ts hdT
   have ht':=Heap.get?_update_self (Obj.mapFields (·.setIfInBounds 3 Value.none)) hT (Obj.isFreed_of_fields (Obj.data_mapFields hdT _))
   refine note_entry (hfr:=hfr) (hl:=hl.of_keeps fun b o hb hnf=>⟨o,(other b (noRecord b o hb hnf)).trans hb,rfl⟩) (hf:=hf) (he:=(other a (Ne.symm hte)).trans he) (hd:=hd) (hsz:=(Array.getElem?_eq_some_iff.mp h1).1)
    fun h' t' c n e=>h h' t' ⟨fun b o hb hnf hba hbt=>?_,fun b o hb hba hbt=>?_,fun b o hb=>?_⟩ (.inr ?_) e
   ·exact c.keep b o ((other b fun q=>hbt (by rw [q])).trans hb) hnf hba (by simp)
   ·exact c.slot b o ((other b fun q=>hbt (by rw [q])).trans hb) hba (by simp)
   ·by_cases q:b=t
    ·subst q;exact c.there _ _ ht'
    ·exact c.there b o ((other b q).trans hb)
   ·have n:(s.heap.update t (Obj.mapFields (·.setIfInBounds 3 Value.none))).objs.size ≤ t':=n
    rw [Heap.size_after_update] at n;exact n
  ·rw [if_pos (show (rawInt L == rawInt L)=true from by simp)]
   exact wpAny_pure (h _ t ⟨fun b o hb _ _ _=>hb,fun b o hb _ _=>⟨o.slots,hb⟩,fun b o hb=>⟨o,hb⟩⟩ (.inl rfl) x)
theorem flight_ok{t:Addr}{fr:Option Addr}{Q:Unit→Shared→Prop}(x:Exc s.heap a cls dx (some t) fl)
  (h:∀ h',(∀ b o,h'=h'→s.heap.get? b=some o→b ≠ t→h'.get? b=some o)→(∀ b o,s.heap.get? b=some o→∃ o',h'.get? b=some o')→Exc h' a cls dx (some t) (fr.elim .none fun f=>rawInt f)→Q () { s with heap:=h' }) :
  wpAny M A (setFlight (.ref a) fr) Q E s:=by
 obtain ⟨⟨oe,vs,he,rfl,rfl,hd,h1⟩,tb⟩:=x
 obtain ⟨hte,oT,ts,hT,hdT,h3⟩:=tb t rfl
 have hsz:=(Array.getElem?_eq_some_iff.mp h3).1
 unfold setFlight
 refine wpAny_bind (wpAny_field he hd h1 ?_)
 show wpAny M A (if (Value.ref t != Value.none)=true then _ else _) Q E s
 rw [if_pos (show (Value.ref t != Value.none)=true from by simp)]
 have ht':=Heap.get?_update_self (Obj.mapFields (·.setIfInBounds 3 (fr.elim .none fun f=>rawInt f))) hT (Obj.isFreed_of_fields (Obj.data_mapFields hdT _))
 have other:∀ b,b ≠ t→(s.heap.update t (Obj.mapFields (·.setIfInBounds 3 (fr.elim .none fun f=>rawInt f)))).get? b=s.heap.get? b:=fun b hb=>Heap.get?_update_other _ _ (Ne.symm hb)
 refine wpAny_setField hT hdT hsz (h _ (fun b o _ hb hbt=>(other b hbt).trans hb) (fun b o hb=>?_) ⟨⟨oe,vs,(other a (Ne.symm hte)).trans he,rfl,rfl,hd,h1⟩,fun t' ht=>?_⟩)
 ·by_cases q:b=t
  ·subst q;exact ⟨_,ht'⟩
  ·exact ⟨o,(other b q).trans hb⟩
 ·cases ht
  exact ⟨hte,_,_,ht',Obj.data_mapFields hdT _,by simp [hsz]⟩
end
end L2
namespace L2
open PySem PySem.Spec PyProof.Rows
noncomputable def Away(X:Cx)(pins:List (Addr×Obj))(b:Addr):Prop :=
 X.s₀.heap.objs.size ≤ b∧b ≠ X.env.locals∧(∀ x c,X.env.cells.lookup x=some c→c ≠ b)∧∀ p ∈ X.pn ++ pins,p.1 ≠ b
section
variable {X:Cx} {pins:List (Addr×Obj)} {σ:St} {H H':Hp} {s s':Shared} {h':Heap} {a:Addr} {cls:Value} {dx T:Option Addr} {fl:Value}
theorem Inv.away(I:Inv X pins σ H s){b:Addr}(hb:s.heap.objs.size ≤ b):Away X pins b:=by
 refine ⟨Nat.le_trans I.sz hb,fun z=>?_,fun x c e z=>?_,fun p hp z=>?_⟩
 ·obtain ⟨m,⟨o,es,ep,ho,r⟩,_⟩:=I.loc
  have:=Heap.lt_size ho
  rw [← z] at this;exact absurd (Nat.lt_of_lt_of_le this hb) (Nat.lt_irrefl _)
 ·obtain ⟨v,o,ho,_⟩:=I.cell x c e
  have:=Heap.lt_size ho
  rw [z] at this;exact absurd (Nat.lt_of_lt_of_le this hb) (Nat.lt_irrefl _)
 ·obtain ⟨e,_⟩:=I.pin p hp
  have:=Heap.lt_size e
  rw [z] at this;exact absurd (Nat.lt_of_lt_of_le this hb) (Nat.lt_irrefl _)
theorem Inv.unpin(I:Inv X pins σ H s):Inv X [] σ H s:=I.pins_of fun p hp=>nomatch hp
theorem Away.unpin{b:Addr}(w:Away X pins b):Away X [] b:=⟨w.1,w.2.1,w.2.2.1,fun p hp=>w.2.2.2 p (by simp at hp;exact List.mem_append_left _ hp)⟩
theorem Inv.chg(I:Inv X pins σ H s)(c:Chg (frs X.stack) a T s.heap h')(ha:H a=none)(hT:∀ t,T=some t→H t=none)(wa:Away X pins a)(wT:∀ t,T=some t→Away X pins t) :
  Inv X pins σ H { s with heap:=h' }:=by
 have nt:∀ b u,H b=some u→b ∉ frs X.stack∧b ≠ a∧T ≠ some b:=fun b u e=>⟨fun z=>(by rw [I.stkFree b z] at e;cases e),fun z=>(by rw [z,ha] at e;cases e),fun z=>(by rw [hT b z] at e;cases e)⟩
 have hm:∀ b,b ∉ (a :: T.toList)→b ≠ a∧T ≠ some b:=fun b hb=>⟨fun z=>hb (by simp [z]),fun z=>hb (by simp [z])⟩
 refine I.call' (s':={ s with heap:=h' }) (ch:=a :: T.toList) rfl ⟨fun b o e n hf hc=>c.keep b o e hf (hm b hc).1 (hm b hc).2,fun b o e n hf hc=>c.slot b o e (hm b hc).1 (hm b hc).2,fun b o e n hc=>n,fun b o e hc=>c.there b o e,fun _ _ e=>e,fun _ _ _ e=>e,fun b ps e=>⟨#[],by rw [e];simp⟩⟩ (fun b u e=>?_) I.bare fun b hb=>?_
 ·refine (I.hok b u e).stay (fun c' v hc q=>?_) (fun _ q=>q) fun _ _ q=>q
  have:∃ u',H c'=some u':=by
   rcases hc with z | z
   ·rw [z];exact ⟨u,e⟩
   ·exact ⟨_,z⟩
  obtain ⟨u',e'⟩:=this
  obtain ⟨n1,n2,n3⟩:=nt c' u' e'
  exact c.keep c' v q n1 n2 n3
 ·have w:Away X pins b:=by
   rcases List.mem_cons.mp hb with z | z
   ·rw [z];exact wa
   ·exact wT b (by simpa using z)
  exact ⟨.inr w.1,w.2⟩
noncomputable def XF(X:Cx)(E:XK)(e:Value)(s':Shared):Prop:=∃ a cls dx T fl σ H,e = .ref a∧Inv X [] σ H s'∧Exc s'.heap a cls dx T fl∧Away X [] a∧H a=none∧(∀ t,T=some t→Away X [] t∧H t=none) ∧
 (fl = .none∨fl=rawInt X.env.locals)∧E cls dx H
noncomputable def CXE(P:Program)(w:World):CXT:=fun outer H s E e s'=>∃ a cls dx t H',e = .ref a∧s'.os=s.os∧AllBare s'.gens∧Un (frs outer) [] H H' s.heap s'.heap∧HOk P w H' s'.heap ∧
 Exc s'.heap a cls dx (some t) .none∧s.heap.objs.size ≤ a∧H' a=none∧s.heap.objs.size ≤ t∧H' t=none∧E cls dx H'
theorem flight_chg{h h':Heap}{fs:List Addr}{t:Addr}(k:∀ b o,h.get? b=some o→b ≠ t→h'.get? b=some o)(th:∀ b o,h.get? b=some o→∃ o',h'.get? b=some o'):Chg fs a (some t) h h' :=
 ⟨fun b o e _ _ n=>k b o e fun z=>n (by rw [z]),fun b o e _ n=>⟨o.slots,k b o e fun z=>n (by rw [z])⟩,th⟩
theorem XF.noted{E:XK}{e:Value}{M:Model}{E2:Value→Shared→Prop}{fr:Option Addr}{Q:Unit→Shared→Prop}(hst:X.stack=X.env :: X.outer∧X.env.frame=some X.env.locals)(x:XF X E e s)
  (k:∀ h' a cls dx t σ H,e = .ref a→Inv X [] σ H { s with heap:=h' }→Exc h' a cls dx (some t) (fr.elim .none fun f=>rawInt f)→Away X [] a→H a=none→Away X [] t→H t=none→E cls dx H→Q () { s with heap:=h' }) :
  wpAny M X.A (noteFrame e X.env) (fun _ s1=>wpAny M X.A (setFlight e fr) Q E2 s1) E2 s:=by
 obtain ⟨a,cls,dx,T,fl,σ,H,rfl,I,ex,wa,ha,wT,hfl,q⟩:=x
 refine note_ok (base:=X.base) (outer:=X.outer) (by rw [I.ok.frames,hst.1]) (by have:=I.stack;rw [hst.1] at this;exact this) hst.2 ex hfl fun h1 t c ht e1=>?_
 rw [← hst.1] at c
 have I1:=I.chg c ha (fun t h=>(wT t h).2) wa (fun t h=>(wT t h).1)
 have wt:Away X [] t∧H t=none:=by
  rcases ht with z | z
  ·exact wT t z
  ·exact ⟨I.away z,I.hok.fresh z⟩
 refine flight_ok (s:={ s with heap:=h1 }) e1 fun h2 k1 k2 e2=>?_
 have c2:Chg (frs X.stack) a (some t) h1 h2:=flight_chg (fun b o e n=>k1 b o rfl e n) k2
 have I2:=I1.chg (a:=a) (T:=some t) c2 ha (fun t' h=>by cases h;exact wt.2) wa (fun t' h=>by cases h;exact wt.1)
 exact k h2 a cls dx t σ H rfl I2 e2 wa ha wt.1 wt.2 q
theorem XF.own{E:XK}(hst:X.stack=X.env :: X.outer∧X.env.frame=some X.env.locals):PassesOwn (model X.prog X.w) X.A X.env (XF X E):=by
 intro e s x
 obtain ⟨a,cls,dx,T,fl,σ,H,rfl,I,ex,wa,ha,wT,hfl,q⟩:=x
 unfold notedBy
 refine note_ok (base:=X.base) (outer:=X.outer) (by rw [I.ok.frames,hst.1]) (by have:=I.stack;rw [hst.1] at this;exact this) hst.2 ex hfl fun h1 t c ht e1=>?_
 rw [← hst.1] at c
 have I1:=I.chg c ha (fun t h=>(wT t h).2) wa (fun t h=>(wT t h).1)
 have wt:Away X [] t∧H t=none:=by
  rcases ht with z | z
  ·exact wT t z
  ·exact ⟨I.away z,I.hok.fresh z⟩
 unfold cameBackBy
 obtain ⟨⟨oe,vs,he,hc,hdx,hd,h1'⟩,_⟩:=id e1
 refine wpAny_bind (wpAny_field (s:={ s with heap:=h1 }) he hd h1' ?_)
 show wpAny _ _ (if (Value.ref t == Value.none)=true then _ else _) _ _ _
 rw [if_neg (show ¬ (Value.ref t == Value.none)=true from by simp)]
 refine flight_ok (s:={ s with heap:=h1 }) e1 fun h2 k1 k2 e2=>?_
 have c2:Chg (frs X.stack) a (some t) h1 h2:=flight_chg (fun b o e n=>k1 b o rfl e n) k2
 have I2:=I1.chg (a:=a) (T:=some t) c2 ha (fun t' h=>by cases h;exact wt.2) wa (fun t' h=>by cases h;exact wt.1)
 exact ⟨a,cls,dx,some t,_,σ,H,rfl,I2,e2,wa,ha,fun t' h=>by cases h;exact wt,.inr (by rw [hst.2];rfl),q⟩
theorem XF.leave{E:XK}{e:Value}{M:Model}{E2:Value→Shared→Prop}(hst:X.stack=X.env :: X.outer∧X.env.frame=some X.env.locals)(hex:X.ex=[])(x:XF X E e s) :
  wpAny M X.A (leaving X.env e) (fun _ s'=>CXE X.prog X.w X.outer X.H₀ X.s₀ E e s') E2 s:=by
 unfold leaving
 refine wpAny_bind (XF.noted (fr:=none) hst x fun h' a cls dx t σ H he I ex wa ha wt ht q=>?_)
 exact ⟨a,cls,dx,t,H,he,I.os,I.bare,by have:=I.base;rw [hex] at this;exact this,I.hok,ex,wa.1,ha,wt.1,ht,q⟩
noncomputable abbrev Cx.wishX(X:Cx)(E:XK):Cx:={ X with xe:=XF X E,ex9:=E }
theorem Cx.Ok.wishX{X:Cx}(ok:X.Ok)(E:XK):(X.wishX E).Ok :=
 ⟨ok.mod,ok.kind,ok.glob,ok.blt,ok.above,ok.inj,ok.has,ok.cab,ok.hd,ok.frames,ok.stk,ok.exf,ok.bs,ok.bsz,ok.noex,ok.exfs,ok.funs,ok.frf⟩
theorem Cx.Ok.unwishX{X:Cx}{E:XK}(ok:(X.wishX E).Ok):X.Ok :=
 ⟨ok.mod,ok.kind,ok.glob,ok.blt,ok.above,ok.inj,ok.has,ok.cab,ok.hd,ok.frames,ok.stk,ok.exf,ok.bs,ok.bsz,ok.noex,ok.exfs,ok.funs,ok.frf⟩
theorem Inv.wishX(I:Inv X pins σ H s)(E:XK):Inv (X.wishX E) pins σ H s:=⟨I.ok.wishX E,I.os,I.bare,I.base,I.loc,I.cell,I.free,I.freeC,I.pin,I.hok,I.len⟩
theorem Inv.unwishX{E:XK}(I:Inv (X.wishX E) pins σ H s):Inv X pins σ H s:=⟨I.ok.unwishX,I.os,I.bare,I.base,I.loc,I.cell,I.free,I.freeC,I.pin,I.hok,I.len⟩
theorem SP.unwishX{E:XK}{D:Ends}{f:Flow}{s':Shared}(h:SP (X.wishX E) pins D f s'):SP X pins D f s':=by
 cases f with
 |next=>obtain ⟨σ',H',I,q⟩:=h;exact ⟨σ',H',I.unwishX,q⟩
 |brk=>obtain ⟨σ',H',I,q⟩:=h;exact ⟨σ',H',I.unwishX,q⟩
 |cont=>obtain ⟨σ',H',I,q⟩:=h;exact ⟨σ',H',I.unwishX,q⟩
 |ret u=>obtain ⟨v,σ',H',I,r,q⟩:=h;exact ⟨v,σ',H',I.unwishX,r,q⟩
theorem PSs.wishX{st:List Stmt}{t:TS}{E:XK}(h:PSs (X.wishX E) st t)(k:∀ e s,XF X E e s→X.xe e s):PSs X st t:=fun pins s σ H D I hw =>
 wpAny_mono (h pins s σ H D (I.wishX _) hw) (fun _ _ q=>q.unwishX) k
theorem ownX{E:XK}(hst:X.stack=X.env :: X.outer∧X.env.frame=some X.env.locals):PassesOwn (model (X.wishX E).prog (X.wishX E).w) (X.wishX E).A (X.wishX E).env (X.wishX E).xe:=XF.own hst
end
section
variable {P:Program} {w:World} {K:PySem.W.Frag} {mg:Str→Option Value} {base:Heap}
theorem Fun.okX{x qual:Str}{st:Stmt}{f:Addr}{fd:FuncData}{N ps:List Str}{k:Nat}{sp:Sp}(F:Fun K x qual st f fd)(S:FnScope N ps (defScope st))(len:∀ vs H Q E,sp vs H Q E→vs.length=ps.length)
  (hbody:∀ (cdv:Value) (A:Around) (outer:List Env) (s:Shared) (H:Hp) (vs:List V) (Q:VK) (E:XK),Room k (A.deeper (envOfC qual (defScope st) s.heap.objs.size f cdv))→sp vs H Q E →
   ∃ t,PSs ((cxOf (CXE P w) P w K mg base N qual (defScope st) f cdv A outer s H E).wishX E) (defBody st) t∧t { nx:=fun _ H'=>Q .non H',rt:=Q } (start N vs) H) :
  FnOk P w K mg base (CXE P w) (k + 1) f fd ps sp:=by
 obtain ⟨oc,od,dV,kV,doc,pm,an,cdv,ct,osl,rfl,lk,hcd⟩:=F.ex
 refine fn_of lk hcd S len fun A outer s H vs Q E hr hsp=>?_
 obtain ⟨t,h,q⟩:=hbody cdv A outer s H vs Q E hr hsp
 exact ⟨t,h.wishX fun e s' x=>XF.leave (X:=cxOf (CXE P w) P w K mg base N qual (defScope st) f cdv A outer s H E) ⟨rfl,rfl⟩ rfl x,q⟩
end
end L2
namespace L2
open PySem PySem.Spec PyProof.Rows
open Sem (wp)
section
variable {M:Model} {A:Around} {E:Value→Shared→Prop} {env:Env}
variable {nm q:Str} {C N:Addr} {bs bm:List Value} {hdct:Bool} {sn:List Str} {sub:List Value} {ab:Bool} {col:Option Bool} {dd:Option Addr} {k0 k1 k2 k3 k5:Option Value} {newId:String}
theorem raise_any{s:Shared}{x:Sem Value}{Q:Flow→Shared→Prop}(hbase:bm.contains (.type "BaseException")=true)(hh:A.handled=none)
  (h:wpAny M A x (fun v s₁=>∃ e dx a0 sl,v = .ref e∧s₁.heap.get? C=some (excClassObj nm q C N bs bm hdct sn sub ab col dd k0 k1 k2 k3 k5 newId) ∧
   s₁.heap.get? e=some { cls:=.ref C,dict:=dx,data:=.fields #[a0,.none,.none,.none,.bool false,.none],slots:=sl }∧E (.ref e) s₁) E s) :
  wpAny M A (raiseStmt env (some x) none) Q E s:=by
 have hcB:(Value.ref C :: bm).contains (.type "BaseException")=true:=by rw [List.contains_cons,hbase,Bool.or_true]
 unfold raiseStmt
 refine wpAny_bind (wpAny_mono h (fun v s₁ h₁=>?_) fun _ _ x=>x)
 obtain ⟨e,dx,a0,sl,rfl,hC,he,hE⟩:=h₁
 obtain ⟨hp,g,d,tk,os⟩:=s₁
 repeat (first | with_reducible refine wpAny_loadPart_at he ?_ | with_reducible refine wpAny_loadPart_at hC ?_ | (with_reducible refine wpAny_isSubtype_exc hC ?_;rw [hcB]) | wp_step)
 exact wpAny_raiseNew_none hh hE
end
section
variable {prog:Program} {w:World} {A:Around} {E:Value→Shared→Prop} {h:Heap} {g:Array GenState} {d:Drawn} {t:Nat} {os:OsState}
variable {nm q:Str} {C N:Addr} {bs bm bmB:List Value} {hdct:Bool} {sn:List Str} {sub:List Value} {ab:Bool} {col:Option Bool} {dd:Option Addr} {k0 k1 k2 k3 k5:Option Value} {B Bn newId nid initId inN:String} {bmN:List Value}
theorem type_call_initU(Fn:ExcBaseFacts Bn newId inN bmN)(hBn:bmB.contains (.type Bn)=true)(F:ExcBaseFacts B nid initId bmB)(T:OwnTail h bmB bm){mN:Str→Option Value}{rest:List Value}{fI:Addr}{oI:Obj}{Q:Fin→Shared→Prop}
  (hC:h.get? C=some (excClassObj nm q C N bs bm hdct sn sub ab col dd k0 k1 k2 k3 k5 newId)) (hn:h.Ns N mN) (hi:mN "__init__" = some (.ref fI))
  (hfI:h.get? fI=some oI) (hfc:oI.cls = .type "function")
  (hq:∀ h' e,Heap.MadeExcOf h h' e (.ref C) rest→h.objs.size ≤ e →
   wpAny (model prog w) A (call (.ref fI) (.ref e :: rest)) (fun r s'=>r = .none∧Q (.done (.ret (.ref e))) s') E ⟨h',g,d,t,os⟩) (hrest:rest.length ≤ sizeLine:=by size_fits) :
  wpAny (model prog w) A (Builtin.«type.__call__» ⟨.ref C :: rest,[]⟩) Q E ⟨h,g,d,t,os⟩:=by
 repeat (first | with_reducible refine wpAny_loadPart_at hC ?_ | with_reducible refine wpAny_madeBy_exc hC ?_ | wp_step)
 refine codeAny_call_builtin_code (Code.quiet_builtin _ Fn.quiet) (wpAny_check_new_subU Fn hBn T hC ?_)
 refine codeAny_exc_new_subU Fn hBn F T hC ?_ hrest
 show wpAny _ _ _ _ _ _
 have hC₁:=Heap.get?_push_of_some { cls:=.ref C,data:=.fields #[.ref h.objs.size,.none,.none,.none,.bool false,.none] }
  (Heap.get?_push_of_some { cls:=.type "tuple",data:=.seq rest.toArray } hC)
 have hfI₁:=Heap.get?_push_of_some { cls:=.ref C,data:=.fields #[.ref h.objs.size,.none,.none,.none,.bool false,.none] }
  (Heap.get?_push_of_some { cls:=.type "tuple",data:=.seq rest.toArray } hfI)
 have hn₁:((h.push { cls:=.type "tuple",data:=.seq rest.toArray }).push { cls:=.ref C,data:=.fields #[.ref h.objs.size,.none,.none,.none,.bool false,.none] }).Ns N mN :=
  let ⟨o,es,ep,e,r⟩:=hn;⟨o,es,ep,Heap.get?_push_of_some _ (Heap.get?_push_of_some _ e),r⟩
 have hget:((h.push { cls:=.type "tuple",data:=.seq rest.toArray }).push
   { cls:=.ref C,data:=.fields #[.ref h.objs.size,.none,.none,.none,.bool false,.none] }).get? (h.objs.size + 1)=some
   { cls:=.ref C,data:=.fields #[.ref h.objs.size,.none,.none,.none,.bool false,.none] }:=by heap_get
 have hcC:(Value.ref C :: bm).contains (.ref C)=true:=by simp
 have T₁:=T.keeps (h':=(h.push { cls:=.type "tuple",data:=.seq rest.toArray }).push { cls:=.ref C,data:=.fields #[.ref h.objs.size,.none,.none,.none,.bool false,.none] })
  fun b o e=>Heap.get?_push_of_some _ (Heap.get?_push_of_some _ e)
 unfold isInstance
 repeat (first | with_reducible refine wpAny_loadPart_at hget ?_ | (with_reducible refine wpAny_isSubtype_exc hC₁ ?_;rw [hcC]) | wp_step)
 show wpAny _ _ (typeLookup (.ref C) _) _ _ _
 refine wpAny_typeLookup_tail hC₁ hn₁ T₁ F.mroIs F.init.lookup ?_
 rw [hi]
 refine wpAny_holding (wpAny_bind ?_)
 unfold bindSpecial
 refine wpAny_bind (wpAny_typeOf (T:= "function") ⟨_,hfI₁,hfc⟩ ?_)
 rw [if_pos (by decide)]
 refine wpAny_pure (wpAny_bind (wpAny_mono (hq _ (h.objs.size + 1) ⟨fun b o hb=>Heap.get?_push_of_some _ (Heap.get?_push_of_some _ hb),Heap.get?_none_of_le (Nat.le_succ _),h.objs.size,hget,Heap.get?_none_of_le (Nat.le_refl _),?_⟩ (Nat.le_succ _)) (fun r s' hr=>?_) fun _ _ x=>x))
 ·exact Heap.get?_push_of_some _ (Heap.get?_push_at rfl rfl)
 ·obtain ⟨rfl,hQ⟩:=hr
  wp_walk
  exact hQ
theorem call_initU(Fn:ExcBaseFacts Bn newId inN bmN)(hBn:bmB.contains (.type Bn)=true)(F:ExcBaseFacts B nid initId bmB)(T:OwnTail h bmB bm){mN:Str→Option Value}{rest:List Value}{fI:Addr}{oI:Obj}{Q:Value→Shared→Prop}
  (hC:h.get? C=some (excClassObj nm q C N bs bm hdct sn sub ab col dd k0 k1 k2 k3 k5 newId)) (hn:h.Ns N mN) (hi:mN "__init__" = some (.ref fI))
  (hfI:h.get? fI=some oI) (hfc:oI.cls = .type "function")
  (hq:∀ h' e,Heap.MadeExcOf h h' e (.ref C) rest→h.objs.size ≤ e →
   wpAny (model prog w) (A.under (.builtin "type.__call__" ⟨.ref C :: rest,[]⟩)) (call (.ref fI) (.ref e :: rest)) (fun r s'=>r = .none∧Q (.ref e) s') E ⟨h',g,d,t,os⟩) (hrest:rest.length ≤ sizeLine:=by size_fits) :
  wpAny (model prog w) A (call (.ref C) rest) Q E ⟨h,g,d,t,os⟩:=by
 have f1:=tc_lookup
 have f2:=tc_bind (.ref C)
 have hT:(⟨h,g,d,t,os⟩:Shared).TypeIs (.ref C) "type":=⟨_,hC,rfl⟩
 refine wpAny_call (codeAny_of_tree ?_)
 show wpAny _ _ (callAny (.ref C) _) _ _ _
 repeat (any_goals (first | assumption | with_reducible refine wpAny_loadPart_at hC ?_ | wp_step))
 refine ⟨rfl,?_⟩
 refine codeAny_call_builtin_at (Code.quiet_builtin _ (by decide +kernel)) entry_typeCall (wpAny_check_type_call_sub hC (type_call_initU (hrest:=hrest) Fn hBn F T hC hn hi hfI hfc fun h' e hm he=>?_))
 exact hq h' e hm he
end
section
variable {prog:Program} {w:World} {A:Around} {E:Value→Shared→Prop} {s:Shared} {env:Env}
variable {nm q:Str} {C N:Addr} {bs bm bmB:List Value} {hdct:Bool} {sn:List Str} {sub:List Value} {ab:Bool} {col:Option Bool} {dd:Option Addr} {k0 k1 k2 k3 k5:Option Value} {B Bn newId nid initId inN:String} {bmN:List Value}
theorem raise_call{x:Str}{np cpos pos:Pos}{args:List Expr}{Q:Flow→Shared→Prop}
  (hbase:bm.contains (.type "BaseException")=true) (hh:A.handled=none) (hplain:(backTo cpos (starEach args env)).any (·.1)=false)
  (h:wpAny (model prog w) A (eval (.Name x np) env) (fun f s₁=>f = .ref C∧wpAny (model prog w) A (evalArgs (.ref C) true (backTo cpos (starEach args env)) [])
   (fun a s₂=>a.kw=[]∧s₂.heap.get? C=some (excClassObj nm q C N bs bm hdct sn sub ab col dd k0 k1 k2 k3 k5 newId) ∧
    wpAny (model prog w) A (call (.ref C) a.pos) (fun v s₃=>∃ e dx a0 sl,v = .ref e∧s₃.heap.get? C=some (excClassObj nm q C N bs bm hdct sn sub ab col dd k0 k1 k2 k3 k5 newId) ∧
     s₃.heap.get? e=some { cls:=.ref C,dict:=dx,data:=.fields #[a0,.none,.none,.none,.bool false,.none],slots:=sl }∧E (.ref e) s₃) E s₂) E s₁) E s) :
  wpAny (model prog w) A (exec (.Raise (some (.Call (.Name x np) args [] cpos)) none pos) env) Q E s:=by
 rw [arm_exec_Raise]
 refine wpAny_bind (wpAny_standAt ?_)
 refine raise_any (C:=C) (nm:=nm) (q:=q) (N:=N) (bs:=bs) (bm:=bm) (hdct:=hdct) (sn:=sn) (sub:=sub) (ab:=ab) (col:=col) (dd:=dd) (k0:=k0) (k1:=k1) (k2:=k2) (k3:=k3) (k5:=k5) (newId:=newId) hbase hh ?_
 refine wpAny_bind (wpAny_mono (wpAny_Call_ofName (wpAny_mono h (fun f s₁ h₁=>?_) fun _ _ x=>x)) (fun v s₃ h₃=>wpAny_bind (wpAny_standAt (wpAny_pure h₃))) fun _ _ x=>x)
 obtain ⟨rfl,h₁⟩:=h₁
 unfold callWith
 refine wpAny_bind (wpAny_holding (wpAny_mono h₁ (fun a s₂ h₂=>wpAny_bind (wpAny_standAt ?_)) fun _ _ x=>x))
 obtain ⟨apos,akw⟩:=a
 obtain ⟨hkw,hC,h₂⟩:=h₂
 obtain rfl:akw=[]:=hkw
 obtain ⟨hp,g,d,tk,os⟩:=s₂
 simp only [hplain]
 refine wpAny_bind (wpAny_keeperOf_exc hC ?_)
 exact wpAny_bind (wpAny_mono h₂ (fun v s₃ h₃=>wpAny_bind (wpAny_holding (wpAny_point (wpAny_pure h₃)))) fun _ _ z=>z)
end
end L2
namespace L2
open PySem PySem.Spec PyProof.Rows
open Sem (wp)
section
variable {prog:Program} {w:World} {A:Around} {E:Value→Shared→Prop} {h:Heap} {g:Array GenState} {d:Drawn} {tk:Nat} {os:OsState}
variable {nm q:Str} {C N:Addr} {bs bm bmB:List Value} {hdct:Bool} {sn:List Str} {sub:List Value} {ab:Bool} {col:Option Bool} {dd:Option Addr} {k0 k1 k2 k3 k5:Option Value} {B newId nid initId:String}
theorem base_init(F:ExcBaseFacts B nid initId bmB)(T:OwnTail h bmB bm){e:Addr}{dx:Option Addr}{t0:Addr}{sl:Array (Option Value)}{rest:List Value}{Q:Value→Shared→Prop}
  (hC:h.get? C=some (excClassObj nm q C N bs bm hdct sn sub ab col dd k0 k1 k2 k3 k5 newId)) (he:h.get? e=some { cls:=.ref C,dict:=dx,data:=.fields #[.ref t0,.none,.none,.none,.bool false,.none],slots:=sl })
  (hq:∀ h' t1,(∀ b o,b ≠ e→h.get? b=some o→h'.get? b=some o)→h'.get? e=some { cls:=.ref C,dict:=dx,data:=.fields #[.ref t1,.none,.none,.none,.bool false,.none],slots:=sl }→Q .none ⟨h',g,d,tk,os⟩) (hrest:rest.length ≤ sizeLine:=by size_fits) :
  wpAny (model prog w) A (call (.builtin initId) (.ref e :: rest)) Q E ⟨h,g,d,tk,os⟩:=by
 refine wpAny_call (codeAny_call_builtin F.init.plain F.initEntry (wpAny_check_init_subU F T hC he rfl ?_))
 wp_walk
 refine hq _ h.objs.size (fun b o hb ho=>?_) ?_
 ·rw [Heap.get?_update_other _ _ (Ne.symm hb)]
  exact Heap.get?_push_of_some _ ho
 ·rw [Heap.get?_update_self _ (Heap.get?_push_of_some _ he) rfl]
  rfl
end
section
variable {prog:Program} {w:World} {A:Around} {E:Value→Shared→Prop} {h:Heap} {g:Array GenState} {d:Drawn} {t:Nat} {os:OsState} {K:PySem.W.Frag}
variable {nm q:Str} {C N x:Addr} {bs bm:List Value} {sn:List Str} {sub:List Value} {ab:Bool} {col:Option Bool} {dd:Option Addr} {k0 k1 k2 k3 k5:Option Value} {newId:String}
 {mA:Str→Option Value} {name:Str} {v:Value}
noncomputable abbrev bmV:List Value:=[.type "ValueError",.type "Exception",.type "BaseException",.type "object"]
theorem refuse_tail{self:Value}{l:List Value}(T:OwnTail h bmV l):refuseLoop self "__setattr__" l=pure ():=by
 induction T with
 |base=>exact PySem.F.store_ValueError.passes self
 |own _ _ _ _ ih=>rw [refuseLoop_ref];exact ih
theorem xs_check{M:Model}{o:Obj}{nameV:Value}{Q:Unit→Shared→Prop}
  (hC:h.get? C=some (excClassObj nm q C N bs bm true sn sub ab col dd k0 k1 k2 k3 k5 newId)) (T:OwnTail h bmV bm) (hx:h.get? x=some o) (hc:o.cls = .ref C) (hq:Q () ⟨h,g,d,t,os⟩) :
  wpAny M A (checkBuiltinCall "object.__setattr__" ⟨[.ref x,nameV,v],[]⟩) Q E ⟨h,g,d,t,os⟩:=by
 have SF:=PySem.F.store_ValueError
 have hcB:(Value.ref C :: bm).contains (.type "object")=true:=by rw [List.contains_cons,T.hasType SF.hasOwner,Bool.or_true]
 have ha:=SF.args (.ref x) nameV v
 simp only [checkBuiltinCall,SF.kind,SF.split]
 refine wpAny_bind ?_
 ·unfold isInstance
  repeat (first | (with_reducible refine wpAny_loadPart_at hx ?_;rw [hc]) | (with_reducible refine wpAny_isSubtype_exc hC ?_;rw [hcB]) | wp_step)
  exact hq
theorem xs_entry{tk:Tok}{Q:Fin→Shared→Prop}{ns:List Str}(X:K.In h)
  (hC:h.get? C=some (excClassObj nm q C N bs bm true sn sub ab col dd k0 k1 k2 k3 k5 newId)) (T:OwnTail h bmV bm) (hna:PySem.W.findIn K (.ref C) name=some none)
  (I:h.Inst x C mA)
  (hq:∀ h' tk',h'.Inst x C (fun y=>if y=name then some v else mA y) →
   (∀ b o,b ≠ x→(∀ o₀ dx,h.get? x=some o₀→o₀.dict=some dx→b ≠ dx)→h.get? b=some o→h'.get? b=some o) →
   (∀ o₀,h.get? x=some o₀→∃ o₁ dx,h'.get? x=some o₁∧o₁.cls=o₀.cls∧o₁.data=o₀.data∧o₁.slots=o₀.slots∧o₁.dict=some dx∧(o₀.dict=none→h.objs.size ≤ dx)∧∀ dx',o₀.dict=some dx'→dx=dx')→Q (.done (.ret .none)) ⟨h',g,d,tk',os⟩) (hw:PySem.Within mA ns) (hsz:ns.length < sizeLine) :
  wpAny (model prog w) A (Builtin.«object.__setattr__» ⟨[.ref x,.str name tk,v],[]⟩) Q E ⟨h,g,d,t,os⟩:=by
 obtain ⟨o,hx,hc,hnc,hd⟩:=I
 have hpass:=refuse_tail (self:=.ref x) T
 have L2:PySem.W.Looks (model prog w) h (typeLookup (.ref C) name) none:=PySem.W.looks_findIn X hna
 unfold Builtin.«object.__setattr__»
 repeat (first | rw [refuse_eq] | (rw [refuseLoop_ref,hpass]) | (with_reducible refine wpAny_loadPart_at hx ?_;rw [hc]) | with_reducible refine wpAny_mroOf_exc hC ?_ | (with_reducible refine L2.at ?_) | wp_step)
 rcases hd with ⟨hdn,hmA⟩ | ⟨dx,hdx,hne,hns⟩
 ·
  rw [hdn,if_neg (by simp [typeHasDict])]
  split
  ·rename_i hcd
   cases hcd
  split
  ·rename_i c hcd
   exact absurd hcd (hnc c)
  ·have hx₁:(h.push { cls:=.type "dict",data:=.dict #[] }).get? x=some o:=Heap.get?_push_of_some _ hx
   have hxs:x ≠ h.objs.size:=Nat.ne_of_lt (Heap.lt_size hx)
   refine wpAny_bind (wpAny_alloc' ?_)
   refine wpAny_bind (wpAny_update' hx₁ ?_)
   refine wpAny_pure ?_
   have hgd:((h.push { cls:=.type "dict",data:=.dict #[] }).update x fun o=>{ cls:=o.cls,dict:=some h.objs.size,data:=o.data,slots:=o.slots }).get? h.objs.size
     = some { cls:=.type "dict",data:=.dict #[] } :=
    (Heap.get?_update_ne _ _ _ _ hxs.symm).trans (Heap.get?_push_at rfl rfl)
   have hnd:((h.push { cls:=.type "dict",data:=.dict #[] }).update x fun o=>{ cls:=o.cls,dict:=some h.objs.size,data:=o.data,slots:=o.slots }).Ns h.objs.size (fun _=>none) :=
    ⟨_,#[],_,hgd,rfl,fun e he=>absurd he (by simp),fun _=>rfl⟩
   show wpAny _ _ (Builtin.ObjectAttr.storeInDict h.objs.size (.str name tk) name v) _ _ _
   unfold Builtin.ObjectAttr.storeInDict Builtin.ObjectAttr.newKeyGuard
   refine wpAny_bind (wpAny_pure (wpAny_bind (wpAny_nsSet1 (Heap.Ns1.of_empty hnd) fun h' hn' hs=>?_)))
   obtain ⟨oD,esD,epD,hoD,hdD,hcD⟩:=hn'.count (Within.cons name v Within.nil)
   refine wpAny_bind (wpAny_lookBehind hoD (by rw [hdD];exact pastItsLine_dict (Nat.le_trans hcD (by rw [List.length_cons,List.length_nil,sizeLine_eq];omega))) ?_)
   wp_walk
   have hx':h'.get? x=some { cls:=o.cls,dict:=some h.objs.size,data:=o.data,slots:=o.slots }:=?_
   refine hq h' _ ⟨{ cls:=o.cls,dict:=some h.objs.size,data:=o.data,slots:=o.slots },hx',hc,hnc,.inr ⟨h.objs.size,rfl,hxs.symm,?_⟩⟩ (fun b ob hbx _ hb=>?_)
    (fun o₀ h₀=>by obtain rfl:o=o₀:=Option.some.inj (hx.symm.trans h₀);exact ⟨_,_,hx',rfl,rfl,rfl,rfl,(fun _=>Nat.le_refl _),fun dx e=>by rw [hdn] at e;cases e⟩)
   ·obtain ⟨o',es,ep,e1,e2,e3,eu,e4⟩:=hn'
    exact ⟨o',es,ep,e1,e2,e3,eu,fun y=>by rw [e4 y];by_cases hy:y=name <;> simp [hy,hmA]⟩
   ·exact (hs.2 b (Nat.ne_of_lt (Heap.lt_size hb))).trans ((Heap.get?_update_ne _ _ _ _ hbx).trans (Heap.get?_push_of_some _ hb))
   ·refine (hs.2 x hxs).trans (Heap.get?_update_self _ hx₁ ?_)
    have hfr:=(Heap.get?_some_iff.mp hx).2
    obtain ⟨oc,od,odt,osl⟩:=o
    cases odt <;> first | rfl | exact hfr
 ·
  rw [hdx]
  refine wpAny_pure ?_
  show wpAny _ _ (Builtin.ObjectAttr.storeInDict dx (.str name tk) name v) _ _ _
  unfold Builtin.ObjectAttr.storeInDict Builtin.ObjectAttr.newKeyGuard
  refine wpAny_bind (wpAny_pure (wpAny_bind (wpAny_nsSet1 hns fun h' hn' hs=>?_)))
  obtain ⟨oD,esD,epD,hoD,hdD,hcD⟩:=hn'.count (Within.cons name v hw)
  refine wpAny_bind (wpAny_lookBehind hoD (by rw [hdD];exact pastItsLine_dict (Nat.le_trans hcD (by rw [List.length_cons];omega))) ?_)
  wp_walk
  refine hq h' _ ⟨o,(hs.2 x hne.symm).trans hx,hc,hnc,.inr ⟨dx,hdx,hne,hn'⟩⟩ (fun b ob _ hbd hb=>?_)
   (fun o₀ h₀=>by obtain rfl:o=o₀:=Option.some.inj (hx.symm.trans h₀);exact ⟨_,_,(hs.2 x hne.symm).trans hx,rfl,rfl,rfl,hdx,(fun e=>by rw [hdx] at e;cases e),fun dx' e=>by rw [hdx] at e;exact Option.some.inj e⟩)
  exact (hs.2 b (hbd o dx hx hdx)).trans hb
theorem xstore{Q:Unit→Shared→Prop}{ns:List Str}(X:K.In h)
  (hC:h.get? C=some (excClassObj nm q C N bs bm true sn sub ab col dd k0 k1 k2 k3 k5 newId)) (T:OwnTail h bmV bm) (hs:PySem.W.findIn K (.ref C) "__setattr__" = some (some (.builtin "object.__setattr__"))) (hna:PySem.W.findIn K (.ref C) name=some none)
  (I:h.Inst x C mA)
  (hq:∀ h' tk',h'.Inst x C (fun y=>if y=name then some v else mA y) →
   (∀ b o,b ≠ x→(∀ o₀ dx,h.get? x=some o₀→o₀.dict=some dx→b ≠ dx)→h.get? b=some o→h'.get? b=some o) →
   (∀ o₀,h.get? x=some o₀→∃ o₁ dx,h'.get? x=some o₁∧o₁.cls=o₀.cls∧o₁.data=o₀.data∧o₁.slots=o₀.slots∧o₁.dict=some dx∧(o₀.dict=none→h.objs.size ≤ dx)∧∀ dx',o₀.dict=some dx'→dx=dx')→Q () ⟨h',g,d,tk',os⟩) (hw:PySem.Within mA ns) (hsz:ns.length < sizeLine) :
  wpAny (model prog w) A (setAttr (.ref x) name v) Q E ⟨h,g,d,t,os⟩:=by
 obtain ⟨o,hx,hc,hnc,hd⟩:=id I
 have SF:=PySem.F.store_ValueError
 have L1:PySem.W.Looks (model prog w) h (typeLookup (.ref C) "__setattr__") (some (.builtin "object.__setattr__")):=PySem.W.looks_findIn X hs
 have f3:=SF.slot.bind (.ref x)
 unfold setAttr callSpecial? specialOf
 repeat (any_goals (first | assumption | (with_reducible refine wpAny_loadPart_at hx ?_;rw [hc]) | (with_reducible refine L1.at ?_) | wp_step))
 refine codeAny_call_builtin SF.slot.plain SF.entry (xs_check hC T hx hc (xs_entry X hC T hna I (fun h' tk' I' hk hsame=>?_) hw hsz))
 repeat (any_goals (first | assumption | wp_step))
 exact hq h' tk' I' hk hsame
theorem xl_check{M:Model}{o:Obj}{nameV:Value}{Q:Unit→Shared→Prop}(hC:h.get? C=some (excClassObj nm q C N bs bm true sn sub ab col dd k0 k1 k2 k3 k5 newId))(T:OwnTail h bmV bm)
  (hx:h.get? x=some o) (hc:o.cls = .ref C) (hq:Q () ⟨h,g,d,t,os⟩):wpAny M A (checkBuiltinCall "BaseException.__getattribute__" ⟨[.ref x,nameV],[]⟩) Q E ⟨h,g,d,t,os⟩:=by
 have hk:builtinKind "BaseException.__getattribute__" = some .slot:=by decide +kernel
 have hsplit:splitId "BaseException.__getattribute__" = some ("BaseException","__getattribute__"):=by decide +kernel
 have hcB:(Value.ref C :: bm).contains (.type "BaseException")=true:=by rw [List.contains_cons,T.hasType (b:=true) (by decide +kernel),Bool.or_true]
 have ha:=F.args_bexc_ga (.ref x) nameV
 simp only [checkBuiltinCall,hk,hsplit]
 refine wpAny_bind ?_
 ·unfold isInstance
  repeat (first | (with_reducible refine wpAny_loadPart_at hx ?_;rw [hc]) | (with_reducible refine wpAny_isSubtype_exc hC ?_;rw [hcB]) | wp_step)
  exact hq
theorem xl_entry{ox:Obj}{od:Option Obj}{tk:Tok}{Q:Fin→Shared→Prop}(X:K.In h)(I:PySem.W.InstAt h x ox C od)(hf:PySem.W.findObj K C od name=some (.value v))(hq:Q (.done (.ret v)) ⟨h,g,d,t,os⟩) :
  wpAny (model prog w) A (Builtin.«object.__getattribute__» ⟨[.ref x,.str name tk],[]⟩) Q E ⟨h,g,d,t,os⟩:=by
 have L0:=I.type (M:=model prog w)
 have L3:=PySem.W.looks_find (M:=model prog w) X I hf
 unfold Builtin.«object.__getattribute__»
 refine wpAny_bind (wpAny_pure (wpAny_bind (wpAny_pure (wpAny_bind (L0.at (wpAny_bind (L3.at ?_)))))))
 exact wpAny_pure hq
theorem xload{expr:Bool}{ox:Obj}{od:Option Obj}{Q:Value→Shared→Prop}(X:K.In h)
  (hC:h.get? C=some (excClassObj nm q C N bs bm true sn sub ab col dd k0 k1 k2 k3 k5 newId)) (T:OwnTail h bmV bm)
  (hg:PySem.W.findIn K (.ref C) "__getattribute__" = some (some (.builtin "BaseException.__getattribute__"))) (hgg:PySem.W.findIn K (.ref C) "__getattr__" = some none)
  (I:PySem.W.InstAt h x ox C od) (hf:PySem.W.findObj K C od name=some (.value v)) (hh:PySem.W.handedIn v=true) (hq:Q v ⟨h,g,d,t + 1,os⟩) :
  wpAny (model prog w) A (getAttr (.ref x) name expr) Q E ⟨h,g,d,t,os⟩:=by
 have hx:=I.at_
 have hc:=I.cls
 have L1:PySem.W.Looks (model prog w) h (typeLookup (.ref C) "__getattribute__") (some (.builtin "BaseException.__getattribute__")):=PySem.W.looks_findIn X hg
 have L2:PySem.W.Looks (model prog w) h (typeLookup (.ref C) "__getattr__") none:=PySem.W.looks_findIn X hgg
 have FB:=PySem.F.attrBase_ValueError
 have f3:=FB.ga.bind (.ref x)
 have hx0:(expr && onTheHeap (Value.builtin "BaseException.__getattribute__"))=false:=by cases expr <;> rfl
 have hx2:(Value.builtin "BaseException.__getattribute__" == Value.builtin "object.__getattribute__")=false:=by decide +kernel
 have hx1:(onTheHeap (Value.ref C) && Value.builtin "BaseException.__getattribute__" == Value.builtin "object.__getattribute__")=false:=by rw [hx2];rfl
 unfold getAttr
 repeat (any_goals (first | assumption | (with_reducible refine wpAny_loadPart_at hx ?_;rw [hc]) | (with_reducible refine L1.at ?_) | (with_reducible refine L2.at ?_) | wp_step))
 refine codeAny_call_builtin FB.ga.plain F.entry_bexc_ga (xl_check hC T hx hc (xl_entry X I hf ?_))
 repeat (any_goals (first | assumption | (rw [PySem.W.handedOut_of hh]) | wp_step))
end
end L2
namespace L2
open PySem PySem.Spec PyProof.Rows
noncomputable def xObj(C:Addr)(dx:Option Addr)(e:Addr)(h:Heap):Prop:=∃ t0 sl,h.get? e=some { cls:=.ref C,dict:=dx,data:=.fields #[.ref t0,.none,.none,.none,.bool false,.none],slots:=sl }
noncomputable def rmv(H:Hp)(e:Addr):Hp:=fun b=>if b=e then none else H b
theorem rmv_ne{H:Hp}{e b:Addr}(h:b ≠ e):rmv H e b=H b:=by unfold rmv;rw [if_neg h]
theorem rmv_same{H:Hp}{e:Addr}:rmv H e e=none:=by unfold rmv;rw [if_pos rfl]
theorem ext_ok{P:Program}{w:World}{H:Hp}{h:Heap}{a:Addr}{φ:Heap→Prop}(p:φ h)(o:∃ o,h.get? a=some o)(k:∀ h1 h2:Heap,φ h1→(∀ o,h1.get? a=some o→h2.get? a=some o)→φ h2):ObjOk P w H h a (.ext φ):=⟨p,o,k⟩
theorem xObj_ok{P:Program}{w:World}{H:Hp}{h:Heap}{C e:Addr}{dx:Option Addr}(p:xObj C dx e h):ObjOk P w H h e (.ext (xObj C dx e)) :=
 ext_ok p (let ⟨_,_,q⟩:=p;⟨_,q⟩) fun _ _ ⟨t0,sl,q⟩ k=>⟨t0,sl,k _ q⟩
section
variable {X:Cx} {pins:List (Addr×Obj)} {σ:St} {H:Hp} {s:Shared} {e:Addr} {φ:Heap→Prop}
theorem Inv.untrack(I:Inv X pins σ H s)(he:H e=some (.ext φ)):Inv X pins σ (rmv H e) s:=by
 have nn:∀ b,H b=none→rmv H e b=none:=fun b q=>by
  unfold rmv;split
  ·rfl
  ·exact q
 have ne:∀ b u,H b=some u→(∀ φ,u ≠ .ext φ)→rmv H e b=some u:=fun b u q d=>by
  rw [rmv_ne fun z=>by rw [z,he] at q;exact d φ (Option.some.inj q).symm];exact q
 refine ⟨I.ok,I.os,I.bare,⟨I.base.keep,I.base.slot,fun b o q n x=>nn b (I.base.free b o q n x),I.base.there,fun b xs q=>ne b _ (I.base.tups b xs q) (fun _ z=>by cases z),fun b o u q=>ne b _ (I.base.frzs b o u q) (fun _ z=>by cases z),fun b ps q=>?_⟩,I.loc,I.cell,nn _ I.free,fun x c q=>nn _ (I.freeC x c q),fun p hp=>?_,fun b u q=>?_,I.len⟩
 ·obtain ⟨more,z⟩:=I.base.tbls b ps q
  exact ⟨more,ne b _ z (fun _ z=>by cases z)⟩
 ·obtain ⟨a1,a2,a3⟩:=I.pin p hp
  exact ⟨a1,nn _ a2,a3⟩
 ·have hb:b ≠ e:=fun z=>by rw [z,rmv_same] at q;cases q
  rw [rmv_ne hb] at q
  exact (I.hok b u q).stay (fun _ _ _ z=>z) (fun c z=>ne c _ z (fun _ z=>by cases z)) fun c xs z=>ne c _ z (fun _ z=>by cases z)
end
theorem ns_some_of{K:PySem.W.Frag}{h:Heap}{N:Addr}{mg:Str→Option Value}{n:Str}{v:Value}(X:K.In h)(G:h.Ns N mg)(e:PySem.W.nsIn K N n=some (some v)):mg n=some v:=by
 obtain ⟨o,es,ep,ho,hd,_,hf⟩:=G
 unfold PySem.W.nsIn at e
 split at e
 ·rename_i c d es' n' sl q
  have:=X _ _ q
  rw [ho] at this
  cases this
  cases hd
  split at e
  ·rename_i y he
   cases e
   rw [← hf]
   unfold nsFind findBy
   rw [← Array.find?_toList,he]
   rfl
  ·split at e <;> cases e
 ·cases e
structure XCls(K:PySem.W.Frag)(C f:Addr):Prop where
 cls:∃ nm q N bs bm sn sub ab col dd k0 k1 k2 k3 k5,K.lookup C=some (excClassObj nm q C N bs bm true sn sub ab col dd k0 k1 k2 k3 k5 "ValueError.__new__")∧PySem.W.tailIn K bmV bm=true∧PySem.W.nsOkIn K N=true∧PySem.W.nsIn K N "__init__" = some (some (.ref f))
 fn:∃ o,K.lookup f=some o∧o.cls = .type "function"
 sa:PySem.W.findIn K (.ref C) "__setattr__" = some (some (.builtin "object.__setattr__"))
 ga:PySem.W.findIn K (.ref C) "__getattribute__" = some (some (.builtin "BaseException.__getattribute__"))
 gg:PySem.W.findIn K (.ref C) "__getattr__" = some none
 cl:PySem.W.findIn K (.ref C) "__class__" = some (some (.builtin "object.__class__"))
 cg:PySem.W.specialIn K (.builtin "object.__class__") "__get__" = some (some (.builtin "getset_descriptor.__get__"))
 ct:PySem.W.takesIn K (.builtin "object.__class__")=some true
 mo:PySem.W.mroIn K C (.type "object")=some true
noncomputable def tRaise(C:Addr)(sp:Sp)(E:XK)(t:TA):TS:=fun _ σ H=>t σ H fun vs H1=>∀ e,H1 e=none→sp (.ref e :: vs) (upd H1 e (.ext (xObj C none e)))
 (fun v H2=>v = .non∧∃ dx,H2 e=some (.ext (xObj C (some dx) e))∧E (.ref C) (some dx) (rmv H2 e)) E0
section
variable {X:Cx} {E:XK} {k:Nat} {f C:Addr} {fd:FuncData} {ps:List Str} {sp:Sp} {x:Str} {p pos cpos:Pos} {e:Expr} {es:List Expr} {t:TA}
theorem ps_raise(c:XCls X.K C f)(F:FnOk X.prog X.w X.K X.mg X.base CX0 k f fd ps sp)(hr:Room (k + 1) X.A)(hg:Gl X x)(hm:X.mg x=some (.ref C))(hb:Binds X.K fd ps [])
  (ha:PA (X.wishX E) (e :: es) t) (hps:ps.length ≤ 100:=by decide) (hdb:(x == ("__debug__":Str))=false:=by decide) (he:starEach (e :: es) X.env=(false,eval e X.env) :: starEach es X.env:=by rfl) (hpl:(backTo cpos (starEach (e :: es) X.env)).any (·.1)=false:=by rfl) :
  PS (X.wishX E) (.Raise (some (.Call (.Name x p) (e :: es) [] cpos)) none pos) (tRaise C sp E t):=by
 intro pins s σ H D I h
 obtain ⟨nm,q,N,bs,bm,sn,sub,ab,col,dd,k0,k1,k2,k3,k5,lC,hT,hok,hi⟩:=c.cls
 obtain ⟨oI,lI,fI⟩:=c.fn
 have hbase:bm.contains (.type "BaseException")=true:=(PySem.W.tail_of_in I.kIn hT).hasType (by decide +kernel)
 refine raise_call (C:=C) (nm:=nm) (q:=q) (N:=N) (bs:=bs) (bm:=bm) (hdct:=true) (sn:=sn) (sub:=sub) (ab:=ab) (col:=col) (dd:=dd) (k0:=k0) (k1:=k1) (k2:=k2) (k3:=k3) (k5:=k5) (newId:= "ValueError.__new__") hbase hr.hd hpl ?_
 refine ld_glob (X:=X.wishX E) I hg hm ⟨rfl,?_⟩ hdb
 have hA:=ha cpos pins s σ H _ I h
 rw [he] at hA ⊢
 refine Calls.evalArgs_plain (thn hA fun us s1 ⟨vs,H1,I1,r1,q1⟩=>⟨rfl,I1.kIn _ _ lC,?_⟩)
 have KX:X.K.In s1.heap:=I1.kIn
 have T:=PySem.W.tail_of_in KX hT
 have Ns:s1.heap.Ns N (s1.heap.nsMap N):=.of_isNs (PySem.W.isNs_of_in KX hok)
 have hi':s1.heap.nsMap N "__init__" = some (.ref f):=ns_some_of KX Ns hi
 obtain ⟨hp,g,d,tk,os⟩:=s1
 have FV:=_root_.PySem.F.excBase_ValueError
 refine call_initU (mN:=hp.nsMap N) FV (by decide +kernel) FV T (KX _ _ lC) Ns hi' (KX _ _ lI) fI (fun h' e' hm' hle=>?_) ?_
 ·have I2:=I1.laid (t':=tk) (a:=e') (o:=.ext (xObj C none e')) hm'.keeps hle (xObj_ok (let ⟨t,ht,_⟩:=hm'.there;⟨t,_,ht⟩))
  have hq:=q1 e' (I1.hok.fresh hle)
  have r2:Vals (V.ref e' :: vs) (Value.ref e' :: us):=.cons rfl r1
  have hl:(Value.ref e' :: us ++ []).length=ps.length:=by
   rw [List.append_nil,← r2.length,F.len _ _ _ _ hq]
  refine wpAny_call (codeAny_mono (F.run _ X.stack _ _ ⟨Value.ref e' :: us,[]⟩ (Value.ref e' :: us ++ []) _ _ E0 (hr.make C us []) (I2.env0.make C us []) (hb _ _ I2.kIn hl) (by rw [List.append_nil];exact r2) hq) fun r s' hq'=>?_)
  cases r with
  |error z=>exact hq'.elim
  |ok fl =>
   cases fl with
   |ret u =>
    obtain ⟨v,H',I3,rv,⟨rfl,dx,hx,hE⟩⟩:=I2.after hq'
    obtain ⟨⟨t0,sl,ho⟩,_⟩:=I3.hok _ _ hx
    refine ⟨rv,e',some dx,.ref t0,sl,rfl,I3.kIn _ _ lC,ho,?_⟩
    exact ⟨e',.ref C,some dx,none,.none,σ,rmv H' e',rfl,I3.unwishX.unpin.untrack hx,⟨⟨_,_,ho,rfl,rfl,rfl,rfl⟩,(fun t h=>nomatch h)⟩,(I1.unwishX.away hle).unpin,rmv_same,(fun t h=>nomatch h),.inl rfl,hE⟩
   |next=>exact False.elim hq'
   |brk=>exact False.elim hq'
   |cont=>exact False.elim hq'
 ·have hl:=F.len _ _ _ _ (q1 hp.objs.size (I1.hok.fresh (Nat.le_refl _)))
  rw [List.length_cons,r1.length] at hl
  exact Nat.le_trans (show us.length ≤ 100 by omega) (by decide)
end
end L2
namespace L2
open PySem PySem.Spec PyProof.Rows DL
section
variable {X:Cx} {pins:List (Addr×Obj)} {σ:St} {H:Hp} {s:Shared} {a:Addr} {o:HO}
theorem Inv.adopt(I:Inv X pins σ H s)(w:Away X pins a)(hn:H a=none)(new:ObjOk X.prog X.w (upd H a o) s.heap a o):Inv X pins σ (upd H a o) s:=by
 have nn:∀ b,b ≠ a→H b=none→upd H a o b=none:=fun b q z=>by rw [upd_ne q];exact z
 have ne:∀ b u,H b=some u→upd H a o b=some u:=fun b u q=>by rw [upd_ne fun z=>by rw [z,hn] at q;cases q];exact q
 refine ⟨I.ok,I.os,I.bare,⟨I.base.keep,I.base.slot,fun b ob q n x=>nn b (fun z=>?_) (I.base.free b ob q n x),I.base.there,fun b xs q=>ne b _ (I.base.tups b xs q),fun b ob u q=>ne b _ (I.base.frzs b ob u q),fun b ps q=>?_⟩,I.loc,I.cell,nn _ (Ne.symm w.2.1) I.free,fun x c q=>nn _ (w.2.2.1 x c q) (I.freeC x c q),fun p hp=>?_,fun b u q=>?_,I.len⟩
 ·have:=Heap.lt_size q
  rw [z] at this
  exact absurd (Nat.lt_of_lt_of_le this w.1) (Nat.lt_irrefl _)
 ·obtain ⟨more,z⟩:=I.base.tbls b ps q
  exact ⟨more,ne b _ z⟩
 ·obtain ⟨a1,a2,a3⟩:=I.pin p hp
  exact ⟨a1,nn _ (w.2.2.2 p hp) a2,a3⟩
 ·by_cases hb:b=a
  ·subst hb
   rw [upd_same] at q;cases q
   exact new
  ·rw [upd_ne hb] at q
   exact (I.hok b u q).stay (fun _ _ _ z=>z) (fun c z=>ne c _ z) fun c xs z=>ne c _ z
theorem xDict_ok{P:Program}{w:World}{h:Heap}{fs:List (Str×Int)}{dx:Addr}(p:xDict fs dx h):ObjOk P w H h dx (.ext (xDict fs dx)) :=
 ext_ok p (let ⟨_,⟨o,_,_,q,_⟩,_⟩:=p;⟨o,q⟩) fun _ _ ⟨mA,⟨o,es,ep,q,r⟩,z⟩ k=>⟨mA,⟨o,es,ep,k _ q,r⟩,z⟩
end
noncomputable def PJ(X:Cx)(parts:List Expr)(n:Nat)(t:St→Hp→Prop):Prop:=∀ (pins:List (Addr×Obj)) (s:Shared) (σ:St) (H:Hp) (out:Str) (Q:Value→Shared→Prop),Inv X pins σ H s→t σ H→out.length + n ≤ 1000000 →
 (∀ txt tk s',Inv X pins σ H s'→Q (.str txt tk) s')→wpAny (model X.prog X.w) X.A (joinParts out (evalEach parts X.env)) Q X.xe s
section
variable {X:Cx} {e v:Expr} {rest:List Expr} {n:Nat} {t:St→Hp→Prop} {pos p:Pos}
theorem pj_nil:PJ X [] 0 fun _ _=>True:=fun pins s σ H out Q I _ hl k=>joinParts_nil (k _ _ _ (I.tok _)) (by rw [sizeLine_eq];omega)
theorem pj_str{c:Str}(he:PE X e (tC (.str c)))(hr:PJ X rest n t):PJ X (e :: rest) (c.length + n) t:=fun pins s σ H out Q I h hl k =>
 joinParts_cons (thn (he pins s σ H (fun v H'=>v = .str c∧H'=H) I ⟨rfl,rfl⟩) fun u s1 zz0=>by
  obtain ⟨v,H1,I1,r1,e1,e2⟩:=zz0
  subst e1;subst e2
  obtain ⟨tk,rfl⟩:=r1
  have z:(out ++ c).length=out.length + c.length:=strLen_append out c
  exact ⟨by rw [z,sizeLine_eq];omega,hr pins s1 σ H1 _ Q I1 h (by rw [z];omega) k⟩)
theorem pj_int{i:Nat}(he:PE X v (tVar i))(hr:PJ X rest n t):PJ X (.FormattedValue v (-1) none p :: rest) (2000 + n) fun σ H=>(∃ a:Int,σ[i]?=some (some (.int a))∧a.natAbs.log2 < 1920)∧t σ H:=fun pins s σ H out Q I ⟨⟨a,ha,hb⟩,h⟩ hl k =>
 joinParts_cons (FormattedValue_plain (thn (he pins s σ H (fun v H'=>v = .int a∧H'=H) I ⟨_,ha,rfl,rfl⟩) fun u s1 zz0=>by
  obtain ⟨v,H1,I1,r1,e1,e2⟩:=zz0
  subst e1;subst e2
  obtain ⟨tk,rfl⟩:=r1
  refine formatField_int_small hb ?_
  have e3:=int_text_length_le (k:=1920) (by decide) hb
  have z:(out ++ Str.ofString (toString a)).length=out.length + (toString a).length:=by rw [strLen_append,PySem.ofString_length]
  exact ⟨by rw [z,sizeLine_eq];omega,hr pins _ σ H1 _ Q (I1.tok _) h (by rw [z];omega) k⟩))
noncomputable def tTxt(t:St→Hp→Prop):TE:=fun σ H Q=>t σ H∧∀ txt,Q (.str txt) H
theorem pe_joined{e2:Expr}(h:PJ X (e :: e2 :: rest) n t)(hn:n ≤ 1000000:=by decide):PE X (.JoinedStr (e :: e2 :: rest) pos) (tTxt t):=fun pins s σ H Q I ⟨ht,hq⟩ =>
 JoinedStr_many (h pins s σ H Str.empty _ I ht (by show 0 + n ≤ _;omega) fun txt tk s' I'=>⟨.str txt,H,I',⟨tk,rfl⟩,hq txt⟩)
end
structure XBase(K:PySem.W.Frag)(C0:Addr):Prop where
 rd:PySem.W.readsIn K C0 (.type "type")=true
 fc:PySem.W.findCls K (.ref C0) (.type "type") "__init__" = some (.val (.builtin "ValueError.__init__"))
 sp:PySem.W.specialIn K (.ref C0) "__getattribute__" = some (some (.builtin "type.__getattribute__"))
noncomputable def tBInit(K:PySem.W.Frag)(t:TA):TE:=fun σ H Q=>t σ H fun vs H1=>∃ e C f txt dx,vs=[.ref e,.str txt]∧XCls K C f∧H1 e=some (.ext (xObj C dx e))∧Q .non H1
section
variable {X:Cx} {x:Str} {C0:Addr} {p1 apos cpos:Pos} {e1:Expr} {es:List Expr} {t:TA}
theorem pe_binit{pl:Sem Bool}(hg:Gl X x)(hm:X.mg x=some (.ref C0))(b:XBase X.K C0)(ha:PA X (e1 :: es) t)(hdb:(x == ("__debug__":Str))=false:=by decide)
  (hst:starEach (e1 :: es) X.env=(false,eval e1 X.env) :: starEach es X.env:=by rfl) (hpl:(backTo cpos (starEach (e1 :: es) X.env)).any (·.1)=false:=by rfl)
  (ht:eval (.Call (.Attribute (.Name x p1) "__init__" apos) (e1 :: es) [] cpos) X.env=(do
   let ov ← eval (.Name x p1) X.env
   standAt apos.atName
   let (f,first) ← holding [ov] (getMethod ov "__init__" pl)
   callWith cpos f first (backTo cpos (starEach (e1 :: es) X.env)) (backToKw cpos (keywordEach [] X.env))):=by rfl) :
  PE X (.Call (.Attribute (.Name x p1) "__init__" apos) (e1 :: es) [] cpos) (tBInit X.K t):=by
 intro pins s σ H Q I h
 refine PySem.W.methodCall_KW (pl:=pl) (ld_glob I hg hm ?_ hdb) ht
 refine PySem.W.method_cls I.kIn b.sp (PySem.W.cls_value I.kIn b.rd b.fc (by decide +kernel) ?_)
 have I0:=I.tok (s.toks + 1)
 have hA:=ha cpos pins _ σ H _ I0 h
 rw [hst] at hA hpl ⊢
 refine Calls.callWith_builtin hpl (Calls.evalArgs_plain ?_)
 refine thn hA fun us s2 zz0=>?_
 obtain ⟨vs,H2,I2,r2,e,C,f,txt,dx,ev,c,he,q⟩:=zz0
 subst ev
 obtain ⟨nm,q',N,bs,bm,sn,sub,ab,col,dd,k0,k1,k2,k3,k5,lC,hT,hok,hi⟩:=c.cls
 obtain ⟨⟨t0,sl,ho⟩,_⟩:=I2.hok _ _ he
 have KX:=I2.kIn
 have hl:us.length ≤ sizeLine:=by rw [← r2.length];show 2 ≤ sizeLine;decide
 cases r2 with
 |cons ra r3 =>
  obtain rfl:=ra
  obtain ⟨hp,g,d,tk,os⟩:=s2
  refine base_init (_root_.PySem.F.excBase_ValueError) (PySem.W.tail_of_in KX hT) (KX _ _ lC) ho (fun h' t1 k eo=>?_) (Nat.le_trans (Nat.le_succ _) hl)
  have J:=I2.write (t':=tk) (x:=e) (e:=e) (o:=.ext (xObj C dx e)) (by rw [he];exact True.intro) (.inl rfl) (fun b u n z=>k b u n z) ⟨_,eo⟩ (xObj_ok ⟨t1,sl,eo⟩)
  have eH:upd H2 e (.ext (xObj C dx e))=H2:=by
   funext b;unfold upd;split
   ·rename_i z;rw [z,he]
   ·rfl
  rw [eH] at J
  exact ⟨.non,H2,J,rfl,q⟩
end
noncomputable def sX(K:PySem.W.Frag)(ta tv:TE)(f:Str):TS:=fun D σ H=>tv σ H fun y H1=>ta σ H1 fun x H2=>∃ e C g i,x = .ref e∧y = .int i∧XCls K C g∧NoAttr K C f ∧
 ((H2 e=some (.ext (xObj C none e))∧∀ dx,H2 dx=none→dx ≠ e→D.nx σ (upd (upd H2 e (.ext (xObj C (some dx) e))) dx (.ext (xDict [(f,i)] dx)))) ∨
  ∃ dx fs,H2 e=some (.ext (xObj C (some dx) e))∧XD H2 dx fs∧dx ≠ e∧fs.lookup f=none∧fs.length < 100∧D.nx σ (upd H2 dx (.ext (xDict (fs ++ [(f,i)]) dx))))
theorem lookup_snoc(fs:List (Str×Int))(f g:Str)(i:Int)(h:fs.lookup f=none):(fs ++ [(f,i)]).lookup g=if g=f then some i else fs.lookup g:=by
 induction fs with
 |nil =>
  by_cases q:g=f
  ·subst q;simp
  ·have:(g == f)=false:=beq_eq_false_iff_ne.mpr q
   simp [List.lookup,this,q]
 |cons x r ih =>
  obtain ⟨a,b⟩:=x
  rw [List.cons_append,List.lookup_cons,List.lookup_cons]
  rw [List.lookup_cons] at h
  by_cases q:(f == a)=true
  ·rw [q] at h;cases h
  ·have q:(f == a)=false:=by simpa using q
   rw [q] at h
   rw [ih h]
   by_cases z:(g == a)=true
   ·rw [z]
    have:g ≠ f:=fun y=>by rw [y,q] at z;cases z
    simp [this]
   ·have z:(g == a)=false:=by simpa using z
    rw [z]
section
variable {X:Cx} {o value:Expr} {f:Str} {pos pos':Pos} {ta tv:TE}
theorem ps_x(ha:PE X o ta)(hv:PE X value tv)(hs:swapsWith value (some (.Attribute o f pos')) pos.line X.env=pure false:=by rfl):PS X (.Assign [.Attribute o f pos'] value pos) (sX X.K ta tv f):=by
 intro pins s σ H D I h
 refine plainObj_wpAny_Assign_Attribute (thn (hv pins s σ H _ I h) fun u s1 zz0=>?_) hs
 obtain ⟨y,H1,I1,ry,q⟩:=zz0
 refine thn (ha pins s1 σ H1 _ I1 q) fun ov s2 zz0=>?_
 obtain ⟨x,H2,I2,rx,e,C,g,i,ex,ey,c,n,q2⟩:=zz0
 subst ex;subst ey
 obtain rfl:ov=Value.ref e:=rx
 obtain ⟨tku,rfl⟩:=ry
 obtain ⟨nm,q',N,bs,bm,sn,sub,ab,col,dd,k0,k1,k2,k3,k5,lC,hT,hok,hi⟩:=c.cls
 have KX:=I2.kIn
 have T:=PySem.W.tail_of_in KX hT
 obtain ⟨hp,gg,d,tk,os⟩:=s2
 rcases q2 with ⟨he,q2⟩ | ⟨dx,fs,he,hd,hne,hl,hlen,q2⟩
 ·obtain ⟨⟨t0,sl,ho⟩,_⟩:=I2.hok _ _ he
  refine xstore (mA:=fun _=>none) (ns:=[]) KX (KX _ _ lC) T c.sa n ⟨_,ho,rfl,(fun c z=>by cases z),.inl ⟨rfl,fun _=>rfl⟩⟩ (fun h' tk' I' hk hsame=>?_) (fun y hy=>absurd rfl hy) (by decide)
  obtain ⟨o1,dx,e1,ec,ed,es,edx,enew,_⟩:=hsame _ ho
  have hdx:hp.objs.size ≤ dx:=enew rfl
  have hne:dx ≠ e:=fun z=>absurd (Nat.lt_of_lt_of_le (Heap.lt_size ho) (z ▸ hdx)) (Nat.lt_irrefl _)
  have J:=I2.write (t':=tk') (x:=e) (e:=e) (o:=.ext (xObj C (some dx) e)) (by rw [he];exact True.intro) (.inl rfl) (fun b u nb z=>hk b u nb (fun o₀ dx' z1 z2=>by rw [ho] at z1;cases z1;cases z2) z) ⟨_,e1⟩ (xObj_ok ⟨t0,sl,by
   rw [e1];obtain ⟨a1,a2,a3,a4⟩:=o1;cases ec;cases ed;cases es;cases edx;rfl⟩)
  have hn0:H2 dx=none:=I2.hok.fresh hdx
  have J2:=J.adopt (a:=dx) (o:=.ext (xDict [(f,i)] dx)) (I2.away hdx) (by rw [upd_ne hne];exact hn0) (xDict_ok (by
   obtain ⟨o2,z1,_,_,z2⟩:=I'
   rw [e1] at z1;cases z1
   rcases z2 with ⟨z2,_⟩ | ⟨d2,z2,_,z3⟩
   ·rw [edx] at z2;cases z2
   ·rw [edx] at z2;cases z2
    refine ⟨_,z3,fun y hy=>?_,fun y=>?_⟩
    ·by_cases zz:y=f
     ·simp [zz]
     ·exact absurd (if_neg zz) hy
    ·by_cases zz:y=f
     ·subst zz;show RelO (Option.map V.int (List.lookup y [(y,i)])) _
      rw [if_pos rfl];simp;exact ⟨tku,rfl⟩
     ·have:(y == f)=false:=beq_eq_false_iff_ne.mpr zz
      show RelO (Option.map V.int (List.lookup y [(f,i)])) _
      rw [if_neg zz];simp [List.lookup,this];exact True.intro))
  exact ⟨σ,_,J2,q2 dx hn0 hne⟩
 ·obtain ⟨⟨t0,sl,ho⟩,_⟩:=I2.hok _ _ he
  obtain ⟨⟨mA,hns,hw,hr⟩,_⟩:=I2.hok _ _ hd
  refine xstore (mA:=mA) (ns:=fs.map (·.1)) KX (KX _ _ lC) T c.sa n ⟨_,ho,rfl,(fun c z=>by cases z),.inr ⟨dx,rfl,hne,hns⟩⟩ (fun h' tk' I' hk hsame=>?_) hw (by rw [List.length_map,sizeLine_eq];omega)
  obtain ⟨o1,dx1,e1,ec,ed,es,edx,_,eold⟩:=hsame _ ho
  obtain rfl:=eold dx rfl
  have eo:o1={ cls:=.ref C,dict:=some dx1,data:=.fields #[.ref t0,.none,.none,.none,.bool false,.none],slots:=sl }:=by
   obtain ⟨a1,a2,a3,a4⟩:=o1;cases ec;cases ed;cases es;cases edx;rfl
  have hd':H2 dx1=some (.ext (xDict fs dx1)):=hd
  have J:=I2.write (t':=tk') (x:=dx1) (e:=dx1) (o:=.ext (xDict (fs ++ [(f,i)]) dx1)) (by rw [hd'];exact True.intro) (.inl rfl) (fun b u nb z=>by
   by_cases zb:b=e
   ·subst zb
    rw [ho] at z;cases z
    rw [e1,eo]
   ·exact hk b u zb (fun o₀ dx' z1 z2=>by rw [ho] at z1;cases z1;cases z2;exact nb) z) ?_ ?_
  ·exact ⟨σ,_,J,q2⟩
  ·obtain ⟨o2,z1,_,_,z2⟩:=I'
   rw [e1] at z1;cases z1
   rcases z2 with ⟨z2,_⟩ | ⟨d2,z2,_,o3,_,_,z3,_⟩
   ·rw [edx] at z2;cases z2
   ·rw [edx] at z2;cases z2;exact ⟨_,z3⟩
  ·refine xDict_ok ?_
   obtain ⟨o2,z1,_,_,z2⟩:=I'
   rw [e1] at z1;cases z1
   rcases z2 with ⟨z2,_⟩ | ⟨d2,z2,_,z3⟩
   ·rw [edx] at z2;cases z2
   ·rw [edx] at z2;cases z2
    refine ⟨_,z3,fun y hy=>?_,fun y=>?_⟩
    ·by_cases zz:y=f
     ·simp [zz]
     ·have:mA y ≠ none:=fun w=>hy (by show (if y=f then _ else mA y)=none;rw [if_neg zz];exact w)
      have:=hw y this
      rw [List.map_append];exact List.mem_append_left _ this
    ·rw [lookup_snoc fs f y i hl]
     by_cases zz:y=f
     ·rw [if_pos zz]
      show RelO (some (V.int i)) (if y=f then _ else mA y)
      rw [if_pos zz];exact ⟨tku,rfl⟩
     ·rw [if_neg zz]
      show RelO _ (if y=f then _ else mA y)
      rw [if_neg zz];exact hr y
end
end L2
namespace L2
open PySem PySem.Spec PyProof.Rows
section
variable {prog:Program} {w:World} {A:Around} {E:Value→Shared→Prop} {h:Heap} {g:Array GenState} {d:Drawn} {t:Nat} {os:OsState} {K:PySem.W.Frag}
variable {nm q:Str} {C N x:Addr} {bs bm:List Value} {sn:List Str} {sub:List Value} {ab:Bool} {col:Option Bool} {dd:Option Addr} {k0 k1 k2 k3 k5:Option Value} {newId:String}
theorem xl_class{ox:Obj}{od:Option Obj}{Q:Option Value→Shared→Prop}(X:K.In h)
  (hC:h.get? C=some (excClassObj nm q C N bs bm true sn sub ab col dd k0 k1 k2 k3 k5 newId)) (T:OwnTail h bmV bm)
  (hg:PySem.W.findIn K (.ref C) "__getattribute__" = some (some (.builtin "BaseException.__getattribute__"))) (hgg:PySem.W.findIn K (.ref C) "__getattr__" = some none)
  (I:PySem.W.InstAt h x ox C od) (hf:PySem.W.findObj K C od "__class__" = some (.bind (.builtin "getset_descriptor.__get__") (.builtin "object.__class__"))) (hm:PySem.W.mroIn K C (.type "object")=some true)
  (hq:Q (some (.ref C)) ⟨h,g,d,t + 1,os⟩):wpAny (model prog w) A (getAttr? (.ref x) "__class__") Q E ⟨h,g,d,t,os⟩:=by
 have hx:=I.at_
 have hc:=I.cls
 have L0:=I.type (M:=model prog w)
 have L1:PySem.W.Looks (model prog w) h (typeLookup (.ref C) "__getattribute__") (some (.builtin "BaseException.__getattribute__")):=PySem.W.looks_findIn X hg
 have L2:PySem.W.Looks (model prog w) h (typeLookup (.ref C) "__getattr__") none:=PySem.W.looks_findIn X hgg
 have L3:=PySem.W.looks_find (M:=model prog w) X I hf
 have FB:=PySem.F.attrBase_ValueError
 have f3:=FB.ga.bind (.ref x)
 have hx2:(Value.builtin "BaseException.__getattribute__" == Value.builtin "object.__getattribute__")=false:=by decide +kernel
 have hx1:(onTheHeap (Value.ref C) && Value.builtin "BaseException.__getattribute__" == Value.builtin "object.__getattribute__")=false:=by rw [hx2];rfl
 have hx0:(false && onTheHeap (Value.builtin "BaseException.__getattribute__"))=false:=rfl
 unfold getAttr? getAttrBy?
 repeat (any_goals (first | assumption | (with_reducible refine wpAny_loadPart_at hx ?_;rw [hc]) | (with_reducible refine L1.at ?_) | (with_reducible refine L2.at ?_) | wp_step))
 refine codeAny_call_builtin FB.ga.plain F.entry_bexc_ga (xl_check hC T hx hc ?_)
 unfold Builtin.«object.__getattribute__»
 refine wpAny_bind (wpAny_pure (wpAny_bind (wpAny_pure (wpAny_bind (L0.at (wpAny_bind (L3.at ?_)))))))
 show wpAny _ _ (Builtin.ObjectAttr.bindTo _ _ _ _) _ _ _
 unfold Builtin.ObjectAttr.bindTo
 dsimp only
 refine wpAny_bind (wpAny_holding (wpAny_call (PySem.W.class_get (s:=⟨h,g,d,t + 1,os⟩) X I hm ?_)))
 repeat (any_goals (first | assumption | wp_step))
end
end L2
namespace L2
open PySem PySem.Spec PyProof.Rows DL
section
variable {X:Cx} {pins:List (Addr×Obj)} {σ:St} {H:Hp} {s:Shared}
theorem goes_ok{M:Model}{A:Around}{E:Value→Shared→Prop}{j:Nat}{n:Str}{pos:Pos}{Q:Unit→Shared→Prop}(I:Inv X pins σ H s)(hN:X.N.Nodup)(hj:X.N[j]?=some n)(hk:X.env.kindOf n=some .local)
  (h:∀ s',Inv X pins (σ.set j none) H s'→Q () s'):wpAny M A (do bindName X.env n .none;unbindBehindTheSuite X.env n pos) Q E s:=by
 obtain ⟨m,hn,hl⟩:=id I.loc
 have hcls:(X.env.scope.kind == .class || (X.env.scope.kind == .module && X.env.locals != X.env.globals))=false:=by rw [I.ok.kind];rfl
 have cne:=I.cne
 have tracked:∀ {a:Addr} {h':Heap},(∃ o,s.heap.get? a=some o∧H a=none)→Heap.SameBut a s.heap h'→HOk X.prog X.w H h':=fun {a h'} ha hs b ob e=>by
  obtain ⟨_,_,hfree⟩:=ha
  refine (I.hok b ob e).stay (fun c w' hc q=>(hs.2 c ?_).trans q) (fun _ q=>q) fun _ _ q=>q
  rintro rfl
  rcases hc with rfl | hc
  ·rw [hfree] at e;cases e
  ·rw [hfree] at hc;cases hc
 refine wpAny_nameGoes_keeps hk hn hcls fun h' v hn' hs=>?_
 obtain ⟨oL,_,_,hoL,_⟩:=id hn
 refine h _ ⟨I.ok,I.os,I.bare,⟨fun b o e n hb hx=>?_,fun b o e n hb hx=>?_,I.base.free,fun b o e hx=>?_,I.base.tups,I.base.frzs,I.base.tbls⟩,⟨_,hn',fun i y v' e1 e2 e3=>?_⟩,fun y c e=>?_,I.free,I.freeC,fun p hp=>?_,tracked ⟨oL,hoL,I.free⟩ hs,by simpa using I.len⟩
 ·exact (hs.2 b (Nat.ne_of_lt (Nat.lt_of_lt_of_le (Heap.lt_size e) I.ok.above))).trans (I.base.keep b o e n hb hx)
 ·obtain ⟨sl,e1⟩:=I.base.slot b o e n hb hx
  exact ⟨sl,(hs.2 b (Nat.ne_of_lt (Nat.lt_of_lt_of_le (Heap.lt_size e) I.ok.above))).trans e1⟩
 ·obtain ⟨o',e1⟩:=I.base.there b o e hx
  exact ⟨o',(hs.2 b (Nat.ne_of_lt (Nat.lt_of_lt_of_le (Heap.lt_size e) I.ok.above))).trans e1⟩
 ·by_cases hi:i=j
  ·subst hi
   have:i < σ.length:=by
    have:=(List.getElem?_eq_some_iff.mp e2).1
    simpa using this
   rw [List.getElem?_set_self this] at e2
   cases e2
  ·rw [List.getElem?_set_ne (Ne.symm hi)] at e2
   obtain ⟨u',r',q⟩:=hl i y v' e1 e2 e3
   refine ⟨u',r',?_⟩
   rcases q with ⟨k,e⟩ | ⟨k,c,e,z⟩
   ·refine .inl ⟨k,?_⟩
    have:y ≠ n:=fun e=>hi (nodup_ix hN e1 (e ▸ hj))
    simp [this,e]
   ·exact .inr ⟨k,c,e,z.sameBut hs (cne y c e)⟩
 ·obtain ⟨w',z⟩:=I.cell y c e
  exact ⟨w',z.sameBut hs (cne y c e)⟩
 ·obtain ⟨e,n,ne,nf,d⟩:=I.pin p hp
  exact ⟨(hs.2 p.1 ne).trans e,n,ne,nf,d⟩
end
noncomputable def PEX(X:Cx)(e:Expr)(t:St→Hp→VK→XK→Prop):Prop:=∀ (pins:List (Addr×Obj)) (s:Shared) (σ:St) (H:Hp) (Q:VK) (E:XK),Inv X pins σ H s→t σ H Q E →
 wpAny (model X.prog X.w) X.A (eval e X.env) (EP X pins σ Q) (fun x s'=>X.xe x s'∨∃ H1 s1,Inv X pins σ H1 s1∧CXE X.prog X.w X.stack H1 s1 E x s') s
noncomputable def PSX(X:Cx)(st:Stmt)(t:Ends→XK→St→Hp→Prop):Prop:=∀ (pins:List (Addr×Obj)) (s:Shared) (σ:St) (H:Hp) (D:Ends) (E:XK),Inv X pins σ H s→t D E σ H →
 wpAny (model X.prog X.w) X.A (exec st X.env) (SP X pins D) (fun x s'=>X.xe x s'∨∃ H1 s1,Inv X pins σ H1 s1∧CXE X.prog X.w X.stack H1 s1 E x s') s
section
variable {X:Cx} {k:Nat} {f:Addr} {fd:FuncData} {ps:List Str} {sp:Sp} {x:Str} {p pos:Pos} {e:Expr} {es:List Expr} {t:TA} {te:St→Hp→VK→XK→Prop}
theorem pex_call(F:FnOk X.prog X.w X.K X.mg X.base (CXE X.prog X.w) k f fd ps sp)(hr:Room k X.A)(hg:Gl X x)(hm:X.mg x=some (.ref f))(hk:PySem.W.keepIn X.K (.ref f)=true)(hb:Binds X.K fd ps [])
  (ha:PA X (e :: es) t) (hdb:(x == ("__debug__":Str))=false:=by decide) (he:starEach (e :: es) X.env=(false,eval e X.env) :: starEach es X.env:=by rfl) (hpl:(backTo pos (starEach es X.env)).any (·.1)=false:=by rfl) :
  PEX X (.Call (.Name x p) (e :: es) [] pos) (fun σ H Q E=>t σ H fun vs H1=>sp vs H1 Q E):=by
 intro pins s σ H Q E I h
 refine wpAny_Call_Name_kw (ld_glob I hg hm ?_ hdb)
 refine PySem.W.callWith_K (h₀:=X.base) I.ok.mod.kin hk (wpAny_mono (ha pos pins s σ H _ I h) (fun us s1 ⟨vs,H1,I1,r,q⟩=>⟨I1.kIn,?_⟩) (fun _ _ z=>.inl z)) he hpl
 have hl:(us ++ []).length=ps.length:=by rw [List.append_nil,← r.length];exact F.len _ _ _ _ q
 refine wpAny_call (codeAny_mono (F.run X.A X.stack s1 H1 ⟨us,[]⟩ (us ++ []) vs Q E hr I1.env0 (hb s1 us I1.kIn hl) (by rw [List.append_nil];exact r) q) fun r s' hq=>?_)
 cases r with
 |error z=>exact .inr ⟨H1,s1,I1,hq⟩
 |ok fl =>
  cases fl with
  |ret u=>exact I1.after hq
  |next=>exact False.elim hq
  |brk=>exact False.elim hq
  |cont=>exact False.elim hq
theorem psx_set{i:Nat}{y:Str}{pos':Pos}(hN:X.N.Nodup)(hi:X.N[i]?=some y)(hx:Loc X.env.scope y)(he:PEX X e te)(hs:swapsWith e (some (.Name y pos')) pos.line X.env=pure false:=by rfl)(hf:X.fn y=true∨X.env.scope.names.lookup y=some .local:=by trivial) :
  PSX X (.Assign [.Name y pos'] e pos) (fun D E σ H=>te σ H (fun v H1=>D.nx (σ.set i (some v)) H1) E):=by
 intro pins s σ H D E I h
 refine wpAny_Assign_Name (thn (he pins s σ H _ E I h) fun v s1 zz0=>?_) hs
 obtain ⟨y,H1,I1,r1,q1⟩:=zz0
 exact store_ok I1 hN hi hx r1 (fun s2 I2=>⟨_,H1,I2,q1⟩) hf
end
noncomputable abbrev Cx.hnd(X:Cx)(a:Addr):Cx:={ X with A:=X.A.mark (some (.ref a)),calm:=false,xe:=fun _ _=>False }
section
variable {X:Cx} {pins:List (Addr×Obj)} {σ:St} {H:Hp} {s:Shared} {a:Addr}
theorem Inv.hnd(I:Inv X pins σ H s)(a:Addr):Inv (X.hnd a) pins σ H s :=
 ⟨⟨I.ok.mod,I.ok.kind,I.ok.glob,I.ok.blt,I.ok.above,I.ok.inj,I.ok.has,I.ok.cab,(fun z=>nomatch z),I.ok.frames,I.ok.stk,I.ok.exf,I.ok.bs,I.ok.bsz,I.ok.noex,I.ok.exfs,I.ok.funs,I.ok.frf⟩,I.os,I.bare,I.base,I.loc,I.cell,I.free,I.freeC,I.pin,I.hok,I.len⟩
theorem Inv.unhnd(ok:X.Ok)(I:Inv (X.hnd a) pins σ H s):Inv X pins σ H s:=⟨ok,I.os,I.bare,I.base,I.loc,I.cell,I.free,I.freeC,I.pin,I.hok,I.len⟩
end
noncomputable def tTry(K:PySem.W.Frag)(CB:Addr)(j:Nat)(tb:Ends→XK→St→Hp→Prop)(th:TS):TS:=fun D σ H=>tb D (fun cls dx H'=>∃ C d,cls = .ref C∧dx=d∧PySem.W.exmOne K cls (.ref CB)=some true ∧
 ∀ a,H' a=none→th { nx:=fun σ' H''=>D.nx (σ'.set j none) H'',rt:=D.rt,bk:=fun σ' H''=>D.bk (σ'.set j none) H'',ct:=fun σ' H''=>D.ct (σ'.set j none) H'' } (σ.set j (some (.ref a))) (upd H' a (.ext (xAny C d a)))) σ H
section
variable {X:Cx} {st b₀:Stmt} {suite:List Stmt} {tb:Ends→XK→St→Hp→Prop} {th:TS} {cx n:Str} {CB:Addr} {cp hpos pos:Pos} {j:Nat}
theorem ps_try(hst:X.stack=X.env :: X.outer∧X.env.frame=some X.env.locals)(hxe:∀ e s,¬ X.xe e s)(hb:PSX X st tb)(hgc:Gl X cx)(hmc:X.mg cx=some (.ref CB))(hN:X.N.Nodup)(hj:X.N[j]?=some n)(hk:X.env.kindOf n=some .local)
  (hB:∀ a,PSs (X.hnd a) (b₀ :: suite) th) (hf:X.fn n=true∨X.env.scope.names.lookup n=some .local:=by trivial) (hdb:(cx == ("__debug__":Str))=false:=by decide) :
  PS X (.Try [st] [.ExceptHandler (some (.Name cx cp)) (some n) (b₀ :: suite) hpos] [] [] pos) (tTry X.K CB j tb th):=by
 intro pins s σ H D I h
 refine wpAny_Try_except ?_
 have hb':=hb pins s σ H D _ I h
 refine wpAny_execs_cons (wpAny_mono hb' (fun f s1 q=>?_) fun x s' hx=>?_)
 ·cases f with
  |next=>exact wpAny_execs_nil (wpAny_execs_nil q)
  |ret v=>exact q
  |brk=>exact q
  |cont=>exact q
 rcases hx with hx | ⟨H1,s1,I1,a,cls,dx,t,H',rfl,os,bare,un,hok,ex,wa,ha,wt,ht,C,d,rfl,hdd,exm,kk⟩
 ·exact absurd hx (hxe _ _)
 obtain rfl:d=dx:=hdd.symm
 have I2:Inv X pins σ H' s':=I1.call' (ch:=[]) os un hok bare (fun b z=>absurd z (by simp))
 have aw:=I1.away wa
 have tw:=I1.away wt
 refine note_ok (base:=X.base) (outer:=X.outer) (by rw [I2.ok.frames,hst.1]) (by have:=I2.stack;rw [hst.1] at this;exact this) hst.2 ex (.inl rfl) fun h1 t1 c1 ht1 e1=>?_
 rw [← hst.1] at c1
 have I3:=I2.chg c1 ha (fun t' h=>by cases h;exact ht) aw (fun t' h=>by cases h;exact tw)
 have wt1:Away X pins t1∧H' t1=none:=by
  rcases ht1 with z | z
  ·cases z;exact ⟨tw,ht⟩
  ·exact ⟨I2.away z,I2.hok.fresh z⟩
 refine flight_ok (s:={ s' with heap:=h1 }) e1 fun h2 k1 k2 e2=>?_
 have c2:Chg (frs X.stack) a (some t1) h1 h2:=flight_chg (fun b o e n=>k1 b o rfl e n) k2
 have I4:=I3.chg (a:=a) (T:=some t1) c2 ha (fun t' h=>by cases h;exact wt1.2) aw (fun t' h=>by cases h;exact wt1.1)
 refine wpAny_handleBy_cons (codeAny_handlers_test ?_) (by intro q;cases q)
 refine ld_glob (X:=X.hnd a) (I4.hnd a) hgc hmc ?_ hdb
 have LT:PySem.W.Looks (model X.prog X.w) h2 (typeOf (.ref a)) (.ref C):=by
  obtain ⟨⟨o,vs,z1,z2,_⟩,_⟩:=e2
  rw [← z2]
  exact (PySem.W.Looks.ld z1).andThen .now
 refine (PySem.W.exm_one (M:=model X.prog X.w) (h:=h2) I4.kIn LT exm).here ?_
 refine codeAny_handlers_suite_as ?_
 refine flight_ok (s:={ s' with heap:=h2 }) e2 fun h3 k3 k4 e3=>?_
 have c3:Chg (frs X.stack) a (some t1) h2 h3:=flight_chg (fun b o e n=>k3 b o rfl e n) k4
 have I5:=I4.chg (a:=a) (T:=some t1) c3 ha (fun t' h=>by cases h;exact wt1.2) aw (fun t' h=>by cases h;exact wt1.1)
 have xa:xAny C d a h3:=by
  obtain ⟨⟨o,vs,z1,z2,z3,z4,_⟩,_⟩:=e3
  exact ⟨o,vs,z1,z2,z3,z4⟩
 have I6:=I5.adopt (a:=a) (o:=.ext (xAny C d a)) aw ha (ext_ok xa (let ⟨o,_,q,_⟩:=xa;⟨o,q⟩) fun _ _ ⟨o,vs,z1,z2⟩ k=>⟨o,vs,k _ z1,z2⟩)
 refine store_ok (X:=X.hnd a) (v:=.ref a) (I6.hnd a) hN hj (.inl hk) rfl (fun s7 I7=>?_) hf
 refine wpAny_mono (hB a pins s7 _ _ _ I7 (kk a ha)) (fun f s8 q=>?_) fun _ _ z=>z.elim
 have ok:=I.ok
 cases f with
 |next=>obtain ⟨σ',H'',J,q⟩:=q;exact goes_ok (J.unhnd ok) hN hj hk fun s9 J9=>⟨_,H'',J9,q⟩
 |brk=>obtain ⟨σ',H'',J,q⟩:=q;exact goes_ok (J.unhnd ok) hN hj hk fun s9 J9=>⟨_,H'',J9,q⟩
 |cont=>obtain ⟨σ',H'',J,q⟩:=q;exact goes_ok (J.unhnd ok) hN hj hk fun s9 J9=>⟨_,H'',J9,q⟩
 |ret u=>obtain ⟨v,σ',H'',J,r,q⟩:=q;exact goes_ok (J.unhnd ok) hN hj hk fun s9 J9=>⟨v,_,H'',J9,r,q⟩
end
end L2
namespace DL
open PySem PySem.Spec L2
noncomputable abbrev DSpX:=List D→Hh→DK→DX→Prop
inductive spX(K:PySem.W.Frag)(n:Nat)(g:DSpX)(vs:List V)(H:Hp)(Q:VK)(E:XK):Prop
 |mk (π:List Addr) (α:List Addr) (h:Hh) (ds:List D) (Q':DK) (X':DX):HRel ⟨K,π⟩ α H h→RelDs ⟨K,π⟩ α H ds vs→ds.length=n→g ds h Q' X' →
   (∀ d h' α' H' v,Q' d h'→Ext α H α' H'→HRel ⟨K,π⟩ α' H' h'→RelD ⟨K,π⟩ α' H' d v→Q v H') →
   (∀ cn fs h' α' H' C dx,X' cn fs h'→Ext α H α' H'→HRel ⟨K,π⟩ α' H' h'→PySem.W.nsIn K mainGlobals cn=some (some (.ref C))→XQ ⟨K,π⟩ α' H' dx fs→E (.ref C) dx H')→spX K n g vs H Q E
noncomputable def runX(n:Nat)(b:DS):DSpX:=fun ds h Q X'=>b { nx:=fun _ h'=>Q .non h',rt:=Q,ex:=X' } (ds.map some ++ List.replicate (n - ds.length) none) h
noncomputable def DrX(h:Hh)(X':DX):DX:=fun cn fs h'=>Dr h (fun _ h2=>X' cn fs h2) .non h'
structure CalX(P:Program)(w:World)(K:PySem.W.Frag)(mg:Str→Option Value)(base:Heap)(k:Nat)(x:Str)(ps:List Str)(sp:Sp):Prop where
 ex:∃ (f:Addr) (fd:FuncData),FnOk P w K mg base (CXE P w) k f fd ps sp∧mg x=some (.ref f)∧PySem.W.keepIn K (.ref f)=true∧Binds K fd ps []
section
variable {P:Program} {w:World} {K:PySem.W.Frag} {mg:Str→Option Value} {base:Heap}
theorem fn_okX{x qual:Str}{st:Stmt}{f:Addr}{fd:FuncData}{N ps:List Str}{k:Nat}{b:DS}{g:DSpX}(F:Fun K x qual st f fd)(S:FnScope N ps (defScope st))
  (hb:∀ (cdv:Value) (A:Around) (outer:List Env) (s:Shared) (H:Hp) (E:XK),Room k (A.deeper (PyProof.Rows.envOfC qual (defScope st) s.heap.objs.size f cdv))→SSs ((cxOf (CXE P w) P w K mg base N qual (defScope st) f cdv A outer s H E).wishX E) (defBody st) b)
  (hg:∀ ds h Q X',g ds h Q X'→runX N.length b ds h (Dr h Q) (DrX h X')):FnOk P w K mg base (CXE P w) (k + 1) f fd ps (spX K ps.length g):=by
 refine F.okX S (fun vs H Q E h=>?_) fun cdv A outer s H vs Q E hr h=>?_
 ·obtain ⟨π,α,h,ds,Q',X',R,r,l,_⟩:=h
  rw [← r.length,l]
 ·obtain ⟨π,α,h,ds,Q',X',R,r,l,q,kk,kx⟩:=h
  refine ⟨_,hb cdv A outer s H E hr,π,α,_,h,{ nx:=fun _ h'=>Dr h Q' .non h',rt:=Dr h Q',ex:=DrX h X' },R,relS_start r,hg ds h Q' X' q,⟨fun _ h' α' H' σ' a b c _=>?_,fun d h' α' H' v a b c d'=>?_,fun _ _ _ _ _ a _ _ _=>a.elim,fun _ _ _ _ _ a _ _ _=>a.elim,fun cn fs h' α' H' C dx a b c d d2=>?_⟩⟩
  ·obtain ⟨d',h2,q,e,R2,r2⟩:=a.rel R b c .non
   exact kk d' h2 α H' .non q e R2 r2
  ·obtain ⟨d',h2,q,e,R2,r2⟩:=a.rel R b c d'
   exact kk d' h2 α H' v q e R2 r2
  ·obtain ⟨d',h2,q,e,R2,r2⟩:=Dr.rel R b c .non a
   exact kx cn fs h2 α H' C dx q e R2 d (d2.map fun _ _ d2=>⟨fun z=>d2.1 (by obtain ⟨β,hβ,_⟩:=b.pre;rw [hβ];exact List.mem_append_left _ z),d2.2⟩)
end
section
variable {X:Cx} {k m:Nat} {ps:List Str} {g:DSpX} {x:Str} {p pos:Pos} {e:Expr} {es:List Expr} {n:Nat} {f:DA}
end
noncomputable abbrev DEX:=Sl→Hh→DK→DX→Prop
noncomputable def dCalX(g:DSpX)(f:DA):DEX:=fun δ h Q X'=>f δ h fun ds h1=>g ds h1 Q X'
noncomputable def dIxX(fa:DEX)(fc:DE):DEX:=fun δ h Q X'=>fa δ h (fun x h1=>fc δ h1 fun y h2=>pIx x y h2 Q) X'
noncomputable def dDropX(f:DEX):DS:=fun En δ h=>f δ h (fun _ h1=>En.nx δ h1) En.ex
noncomputable def dRetX(f:DEX):DS:=fun En δ h=>f δ h En.rt En.ex
section
variable {X:Cx} {E:XK} {k m:Nat} {ps:List Str} {g:DSpX} {x:Str} {p pos:Pos} {e a c:Expr} {es:List Expr} {n:Nat} {f:DA} {fa:DEX} {fc:DE}
end
noncomputable def spI(C:Addr)(ns:List Str):Sp:=fun vs H Q _=>∃ (e:Addr) (is:List Int),vs = .ref e :: is.map V.int∧is.length=ns.length∧(∀ i ∈ is,i.natAbs.log2 < 1920)∧H e=some (.ext (xObj C none e)) ∧
 ∀ dx,H dx=none→dx ≠ e→Q .non (upd (upd H e (.ext (xObj C (some dx) e))) dx (.ext (xDict (ns.zip is) dx)))
noncomputable def dRaise(cn:Str)(ns:List Str)(f:DA):DS:=fun En δ h=>f δ h fun ds h1=>∃ is:List Int,ds=is.map D.int∧is.length=ns.length∧(∀ i ∈ is,i.natAbs.log2 < 1920)∧En.ex cn (ns.zip is) h1
theorem rel_ints{K:KP}{α:List Addr}{H:Hp}:∀ {is:List Int} {vs:List V},RelDs K α H (is.map D.int) vs→vs=is.map V.int
 |[],_,.nil=>rfl
 |i :: is,_,.cons r t=>by cases r;rw [rel_ints t];rfl
structure RaiseX(P:Program)(w:World)(K:PySem.W.Frag)(mg:Str→Option Value)(base:Heap)(k:Nat)(x:Str)(ps ns:List Str):Prop where
 ex:∃ (C f:Addr) (fd:FuncData),mg x=some (.ref C)∧PySem.W.nsIn K mainGlobals x=some (some (.ref C))∧XCls K C f∧FnOk P w K mg base CX0 k f fd ps (spI C ns)∧Binds K fd ps []
section
variable {X:Cx} {E:XK} {k:Nat} {ps ns:List Str} {x:Str} {p pos cpos:Pos} {e:Expr} {es:List Expr} {n:Nat} {f:DA}
theorem s_raise(c:RaiseX X.prog X.w X.K X.mg X.base k x ps ns)(hr:Room (k + 1) X.A)(hg:Gl X x)(ha:SA (X.wishX E) (e :: es) n f)(hps:ps.length ≤ 100:=by decide)(hdb:(x == ("__debug__":Str))=false:=by decide)
  (he:starEach (e :: es) X.env=(false,eval e X.env) :: starEach es X.env:=by rfl) (hpl:(backTo cpos (starEach (e :: es) X.env)).any (·.1)=false:=by rfl) :
  SS (X.wishX E) (.Raise (some (.Call (.Name x p) (e :: es) [] cpos)) none pos) (dRaise x ns f):=by
 obtain ⟨C,fi,fd,hbd,hns,cl,F,hb⟩:=c.ex
 refine PS.imp (ps_raise (X:=X) (E:=E) cl F hr hg hbd hb ha hps hdb he hpl) fun F' σ H zz0=>?_
 obtain ⟨π,α,δ,h,En,R,S,q,k⟩:=zz0
 refine ⟨π,α,δ,h,_,R,S,q,fun ds h1 α1 H1 vs f1 e1 R1 r1 l1=>?_⟩
 obtain ⟨is,rfl,hl,hb',hex⟩:=f1
 intro e' he'
 refine ⟨e',is,by rw [rel_ints r1],hl,hb',upd_same,fun dx hdx hne=>⟨rfl,dx,?_,?_⟩⟩
 ·rw [upd_ne (Ne.symm hne),upd_same]
 ·have hn1:H1 dx=none:=by rw [upd_ne hne] at hdx;exact hdx
  have eH:rmv (upd (upd (upd H1 e' (.ext (xObj C none e'))) e' (.ext (xObj C (some dx) e'))) dx (.ext (xDict (ns.zip is) dx))) e'=upd H1 dx (.ext (xDict (ns.zip is) dx)):=by
   funext b
   by_cases hb:b=e'
   ·rw [hb,rmv_same,upd_ne (Ne.symm hne),he']
   ·rw [rmv_ne hb]
    by_cases hd:b=dx
    ·rw [hd,upd_same,upd_same]
    ·rw [upd_ne hd,upd_ne hd,upd_ne hb,upd_ne hb]
  rw [eH]
  exact k.ex x _ h1 α1 _ C (some dx) hex (e1.trans (Ext.new hn1)) (R1.new hn1) hns (.inr ⟨dx,rfl,R1.out hn1,R1.outP hn1,upd_same⟩)
end
end DL
namespace DL
open PySem PySem.Spec L2
noncomputable def dTryE(En:DEnds)(j:Nat):DEnds:={ nx:=fun δ h=>En.nx (δ.set j none) h,rt:=En.rt,bk:=fun δ h=>En.bk (δ.set j none) h,ct:=fun δ h=>En.ct (δ.set j none) h,ex:=En.ex }
noncomputable def dTryS(i:Nat)(g:DSpX)(fa:DA)(cn:Str)(j:Nat)(bh:DS):DS:=fun En δ h=>fa δ h fun ds h1=>g ds h1 (fun d h2=>En.nx (δ.set i (some d)) h2) (fun c fs h2=>c=cn∧bh (dTryE En j) (δ.set j (some (.exc cn fs))) h2)
noncomputable def dTryD(g:DSpX)(fa:DA)(cn:Str)(j:Nat)(bh:DS):DS:=fun En δ h=>fa δ h fun ds h1=>g ds h1 (fun _ h2=>En.nx δ h2) (fun c fs h2=>c=cn∧bh (dTryE En j) (δ.set j (some (.exc cn fs))) h2)
theorem RelS.unset{K:KP}{α:List Addr}{H:Hp}{δ:Sl}{σ:L2.St}(r:RelS K α H δ σ)(j:Nat):RelS K α H (δ.set j none) (σ.set j none):=by
 refine ⟨by simp [r.len],fun i d q=>?_⟩
 by_cases z:j=i
 ·subst z
  have hi:j < δ.length:=by
   have:=(List.getElem?_eq_some_iff.mp q).1
   simpa using this
  rw [List.getElem?_set_self hi] at q
  cases q
 ·rw [List.getElem?_set_ne z] at q
  obtain ⟨w,h1,h2⟩:=r.get i d q
  exact ⟨w,by rw [List.getElem?_set_ne z];exact h1,h2⟩
structure CatchX(K:PySem.W.Frag)(mg:Str→Option Value)(cx cn:Str):Prop where
 ex:∃ CB,mg cx=some (.ref CB)∧∀ C,PySem.W.nsIn K mainGlobals cn=some (some (.ref C))→PySem.W.exmOne K (.ref C) (.ref CB)=some true
section
variable {K:PySem.W.Frag} {Ex:XK} {π α:List Addr} {H:Hp} {δ:Sl} {σ:L2.St} {h:Hh} {En:DEnds} {F:Ends} {CB:Addr} {cn:Str} {j:Nat} {bh:DS}
theorem try_link(hex:∀ C,PySem.W.nsIn K mainGlobals cn=some (some (.ref C))→PySem.W.exmOne K (.ref C) (.ref CB)=some true)(S:RelS ⟨K,π⟩ α H δ σ)(k:EndsOk ⟨K,π⟩ Ex α H En F) :
  ∀ c fs h2 α2 H2 C dx,(c=cn∧bh (dTryE En j) (δ.set j (some (.exc cn fs))) h2)→Ext α H α2 H2→HRel ⟨K,π⟩ α2 H2 h2→PySem.W.nsIn K mainGlobals c=some (some (.ref C))→XQ ⟨K,π⟩ α2 H2 dx fs →
   ∃ C' d,Value.ref C = .ref C'∧dx=d∧PySem.W.exmOne K (.ref C) (.ref CB)=some true∧∀ a,H2 a=none→LS K Ex bh { nx:=fun σ' H''=>F.nx (σ'.set j none) H'',rt:=F.rt,bk:=fun σ' H''=>F.bk (σ'.set j none) H'',ct:=fun σ' H''=>F.ct (σ'.set j none) H'' } (σ.set j (some (.ref a))) (upd H2 a (.ext (xAny C' d a))):=by
 rintro c fs h2 α2 H2 C dx ⟨rfl,b⟩ e2 R2 hns hve
 refine ⟨C,dx,rfl,rfl,hex C hns,fun a ha=>?_⟩
 have e3:Ext α2 H2 α2 (upd H2 a (.ext (xAny C dx a))):=Ext.new ha
 have k2:=k.mono (e2.trans e3)
 refine ⟨π,α2,_,h2,dTryE En j,R2.new ha,((S.mono (e2.trans e3)).set j (.exc hns ⟨R2.out ha,R2.outP ha,upd_same⟩ (hve.map fun _ _ z=>z.mono e3))),b,⟨fun δ' h' α' H' σ' x y z w=>?_,k2.rt,fun δ' h' α' H' σ' x y z w=>?_,fun δ' h' α' H' σ' x y z w=>?_,k2.ex⟩⟩
 ·exact k2.nx _ h' α' H' _ x y z (w.unset j)
 ·exact k2.bk _ h' α' H' _ x y z (w.unset j)
 ·exact k2.ct _ h' α' H' _ x y z (w.unset j)
end
section
variable {X:Cx} {k m:Nat} {ps:List Str} {g:DSpX} {x cx cn n:Str} {p pos cpos cp hpos tpos:Pos} {e:Expr} {es:List Expr} {l:Nat} {fa:DA} {b₀:Stmt} {suite:List Stmt} {bh:DS} {j:Nat}
theorem s_tryS{i:Nat}{y:Str}{pos':Pos}(hst:X.stack=X.env :: X.outer∧X.env.frame=some X.env.locals)(hxe:∀ e s,¬ X.xe e s)(hN:X.N.Nodup)(hi:X.N[i]?=some y)(hy:Loc X.env.scope y)(hj:X.N[j]?=some n)(hk:X.env.kindOf n=some .local)
  (c:CalX X.prog X.w X.K X.mg X.base k x ps (spX X.K m g)) (hr:Room k X.A) (hg:Gl X x) (ha:SA X (e :: es) l fa) (hc:CatchX X.K X.mg cx cn) (hgc:Gl X cx) (hB:∀ a,SSs (X.hnd a) (b₀ :: suite) bh) (hl:l=m:=by rfl) (hdb:(x == ("__debug__":Str))=false:=by decide) (hdc:(cx == ("__debug__":Str))=false:=by decide)
  (he:starEach (e :: es) X.env=(false,eval e X.env) :: starEach es X.env:=by rfl) (hpl:(backTo cpos (starEach es X.env)).any (·.1)=false:=by rfl) (hs:swapsWith (.Call (.Name x p) (e :: es) [] cpos) (some (.Name y pos')) pos.line X.env=pure false:=by rfl)
  (hf:X.fn y=true∨X.env.scope.names.lookup y=some .local:=by trivial) (hf2:X.fn n=true∨X.env.scope.names.lookup n=some .local:=by trivial) :
  SS X (.Try [.Assign [.Name y pos'] (.Call (.Name x p) (e :: es) [] cpos) pos] [.ExceptHandler (some (.Name cx cp)) (some n) (b₀ :: suite) hpos] [] [] tpos) (dTryS i g fa cn j bh):=by
 obtain ⟨CB,hmc,hex⟩:=hc.ex
 obtain ⟨f,fd,F,hm,hkp,hb⟩:=c.ex
 refine PS.imp (ps_try (th:=LS X.K X.ex9 bh) hst hxe (psx_set hN hi hy (pex_call F hr hg hm hkp hb ha hdb he hpl) hs hf) hgc hmc hN hj hk hB hf2 hdc) fun F σ H zz0=>?_
 obtain ⟨π,α,δ,h,En,R,S,q,k⟩:=zz0
 refine ⟨π,α,δ,h,_,R,S,q,fun ds h1 α1 H1 vs f1 e1 R1 q1 l1=>?_⟩
 exact ⟨π,α1,h1,ds,_,_,R1,q1,l1.trans hl,f1,fun d h' α' H' v a b c d'=>k.nx _ h' α' H' _ a (e1.trans b) c ((S.mono (e1.trans b)).set i d'),try_link hex (S.mono e1) (k.mono e1)⟩
end
end DL
namespace L2
open PySem PySem.Spec PyProof.Rows DL
structure XIs(K:PySem.W.Frag)(C:Addr):Prop where
 cls:∃ nm q N bs bm sn sub ab col dd k0 k1 k2 k3 k5,K.lookup C=some (excClassObj nm q C N bs bm true sn sub ab col dd k0 k1 k2 k3 k5 "ValueError.__new__")∧PySem.W.tailIn K bmV bm=true
 ga:PySem.W.findIn K (.ref C) "__getattribute__" = some (some (.builtin "BaseException.__getattribute__"))
 gg:PySem.W.findIn K (.ref C) "__getattr__" = some none
 cl:PySem.W.findIn K (.ref C) "__class__" = some (some (.builtin "object.__class__"))
 cg:PySem.W.specialIn K (.builtin "object.__class__") "__get__" = some (some (.builtin "getset_descriptor.__get__"))
 ct:PySem.W.takesIn K (.builtin "object.__class__")=some true
 mo:PySem.W.mroIn K C (.type "object")=some true
section
variable {K:PySem.W.Frag} {C f x:Addr} {ox:Obj} {od:Option Obj}
theorem XCls.is(c:XCls K C f):XIs K C:=by
 obtain ⟨nm,q,N,bs,bm,sn,sub,ab,col,dd,k0,k1,k2,k3,k5,lC,hT,_⟩:=c.cls
 exact ⟨⟨nm,q,N,bs,bm,sn,sub,ab,col,dd,k0,k1,k2,k3,k5,lC,hT⟩,c.ga,c.gg,c.cl,c.cg,c.ct,c.mo⟩
theorem XIs.cls_in(c:XIs K C):∃ cd,PySem.W.clsIn K C=some cd∧cd.hasDict=true:=by
 obtain ⟨nm,q,N,bs,bm,sn,sub,ab,col,dd,k0,k1,k2,k3,k5,lC,_⟩:=c.cls
 exact ⟨_,by unfold PySem.W.clsIn;rw [lC],rfl⟩
theorem findObj_dataO{name:Str}{a g:Value}(hc:(PySem.W.clsIn K C).isSome=true)(ha:PySem.W.findIn K (.ref C) name=some (some a))(hg:PySem.W.specialIn K a "__get__" = some (some g))(ht:PySem.W.takesIn K a=some true):PySem.W.findObj K C od name=some (.bind g a):=by
 obtain ⟨cd,hc⟩:=Option.isSome_iff_exists.mp hc
 unfold PySem.W.findObj
 rw [hc,Option.bind_some,ha,Option.bind_some]
 simp [hg,ht]
theorem kitx_exc(c:XIs K C):PySem.W.KitX K (.ref x) (.ref C) (fun h=>PySem.W.InstAt h x ox C od) where
 ty:=fun _ _ _ I=>I.type
 it:=fun _ _ X _=>by
  obtain ⟨nm,q,N,bs,bm,sn,sub,ab,col,dd,k0,k1,k2,k3,k5,lC,_⟩:=c.cls
  intro A' Q' E' s' k q
  unfold isType loadHead
  exact wpAny_bind (wpAny_loadPart (k _ _ (X _ _ lC)) (wpAny_pure q))
 ne:=fun h tp dd its n sl X htp=>by
  obtain ⟨nm,q,N,bs,bm,sn,sub,ab,col,dd,k0,k1,k2,k3,k5,lC,_⟩:=c.cls
  refine Bool.eq_false_iff.mpr fun q=>?_
  have e:C=tp:=Value.ref.inj (beq_iff_eq.mp q)
  subst e
  have z:=(X _ _ lC).symm.trans htp
  exact absurd (Value.type.inj (congrArg Obj.cls (Option.some.inj z))) (by decide)
 ca:=fun {prog w A E Q s} X I k=>by
  obtain ⟨nm,q,N,bs,bm,sn,sub,ab,col,dd,k0,k1,k2,k3,k5,lC,hT⟩:=c.cls
  obtain ⟨cd,hcd,_⟩:=c.cls_in
  obtain ⟨hp,g,d,t,os⟩:=s
  exact xl_class X (X _ _ lC) (PySem.W.tail_of_in X hT) c.ga c.gg I (findObj_dataO (by rw [hcd];rfl) c.cl c.cg c.ct) c.mo k
end
theorem exc_at{P:Program}{w:World}{H:Hp}{h:Heap}{a C d:Addr}{fs:List (Str×Int)}(hok:HOk P w H h)(ha:H a=some (.ext (xAny C (some d) a)))(hd:H d=some (.ext (xDict fs d))) :
  ∃ ox od,PySem.W.InstAt h a ox C (some od)∧∀ name,∃ r,PySem.W.lookIn name od=some r∧RelO ((fs.lookup name).map V.int) r:=by
 obtain ⟨⟨o,vs,z1,z2,z3,z4⟩,_⟩:=hok _ _ ha
 obtain ⟨⟨mA,hns,_,hr⟩,_⟩:=hok _ _ hd
 obtain ⟨od,ho,hl⟩:=lookIn_ns hns
 refine ⟨o,od,⟨z1,z2,?_,by rw [z3];exact ho⟩,fun name=>⟨mA name,hl name,hr name⟩⟩
 unfold PySem.W.notCls
 rw [z4]
theorem exc_atO{P:Program}{w:World}{H:Hp}{h:Heap}{a C:Addr}{d:Option Addr}(hok:HOk P w H h)(ha:H a=some (.ext (xAny C d a)))(hd:∀ d',d=some d'→∃ fs,H d'=some (.ext (xDict fs d'))):∃ ox od,PySem.W.InstAt h a ox C od:=by
 cases d with
 |none =>
  obtain ⟨⟨o,vs,z1,z2,z3,z4⟩,_⟩:=hok _ _ ha
  refine ⟨o,none,z1,z2,?_,by rw [z3];trivial⟩
  unfold PySem.W.notCls
  rw [z4]
 |some d =>
  obtain ⟨fs,hd⟩:=hd d rfl
  obtain ⟨ox,od,J,_⟩:=exc_at hok ha hd
  exact ⟨ox,some od,J⟩
section
variable {X:Cx}
theorem call_isinstX:CallR X (.builtin "isinstance") (fun xs H Q=>∃ a d C v u b,xs=[.ref a,v]∧H a=some (.ext (xAny C d a))∧(∀ d',d=some d'→∃ fs,H d'=some (.ext (xDict fs d')))∧XIs X.K C∧PySem.W.kitOne X.K (.ref C) u=some b∧(∀ u',RelV v u'→u'=u)∧Q (.bl b) H):=by
 intro pins s σ H xs us Q I r h
 obtain ⟨a,d,C,v,u,b,rfl,ha,hd,c,e,hu,q⟩:=h
 obtain ⟨u1,u2,rfl,ru,rw'⟩:=vals2 r
 cases ru
 obtain rfl:=hu _ rw'
 obtain ⟨ox,od,J⟩:=exc_atO I.hok ha hd
 exact PySem.W.kia_one (kitx_exc c) I.kIn J e (fun z=>nomatch z) fun tk=>⟨.bl b,H,I.tok _,rfl,q⟩
noncomputable def tXA(K:PySem.W.Frag)(te:TE)(name:Str):TE:=fun σ H Q=>te σ H fun x H1=>∃ a d C f fs i,x = .ref a∧H1 a=some (.ext (xAny C (some d) a))∧H1 d=some (.ext (xDict fs d))∧XCls K C f∧NoAttr K C name∧fs.lookup name=some i∧Q (.int i) H1
theorem pe_xa{e:Expr}{te:TE}{name:Str}{pos:Pos}(he:PE X e te)(hb:attributeBase e name X.env (eval e X.env)=eval e X.env):PE X (.Attribute e name pos) (tXA X.K te name):=by
 intro pins s σ H Q I h
 refine attr_of hb (thn (he pins s σ H _ I h) fun u s1 z9=>?_)
 obtain ⟨x,H1,I1,rx,a,d,C,f,fs,i,ex,ha,hd,c,n,l,q⟩:=z9
 subst ex
 obtain rfl:u=Value.ref a:=rx
 obtain ⟨ox,od,J,hl⟩:=exc_at I1.hok ha hd
 obtain ⟨r,h1,h2⟩:=hl name
 rw [l] at h2
 obtain ⟨nm,q',N,bs,bm,sn,sub,ab,col,dd,k0,k1,k2,k3,k5,lC,hT,_⟩:=c.cls
 obtain ⟨cd,hcd,hdct⟩:=c.is.cls_in
 have KX:=I1.kIn
 cases r with
 |none=>exact h2.elim
 |some v =>
  obtain ⟨tk,rfl⟩:=h2
  obtain ⟨hp,g,dr,t,os⟩:=s1
  exact xload KX (KX _ _ lC) (PySem.W.tail_of_in KX hT) c.ga c.gg J (PySem.W.findObj_own (by show Option.any _ _=true;rw [hcd];exact hdct) n rfl h1) rfl ⟨.int i,H1,I1.tok _,⟨tk,rfl⟩,q⟩
end
end L2
namespace DL
open PySem PySem.Spec L2
theorem XQ.dict{K:KP}{α:List Addr}{H:Hp}{dx:Option Addr}{fs:List (Str×Int)}(h:XQ K α H dx fs):∀ d',dx=some d'→∃ fs,H d'=some (.ext (xDict fs d')):=by
 rintro d' rfl
 rcases h with ⟨h,_⟩ | ⟨d,e,v⟩
 ·cases h
 ·cases e;exact ⟨fs,v.2.2⟩
noncomputable def dIsX(cn:Str)(b:Bool)(fa:DE):DE:=fun δ h Q=>fa δ h fun d h1=>match d with | .exc c _=>c=cn∧Q (.bl b) h1 | _=>False
noncomputable def dXA(cn name:Str)(fa:DE):DE:=fun δ h Q=>fa δ h fun d h1=>match d with | .exc c fs=>c=cn∧(match fs.lookup name with | some i=>Q (.int i) h1 | none=>False) | _=>False
structure ClassX(K:PySem.W.Frag)(cn:Str):Prop where
 ex:∃ C,PySem.W.nsIn K mainGlobals cn=some (some (.ref C))∧XIs K C
structure AttrX(K:PySem.W.Frag)(cn name:Str):Prop where
 ex:∃ C f,PySem.W.nsIn K mainGlobals cn=some (some (.ref C))∧XCls K C f∧NoAttr K C name
structure IsX(K:PySem.W.Frag)(cn:Str)(u:Value)(b:Bool):Prop where
 ex:∃ C,PySem.W.nsIn K mainGlobals cn=some (some (.ref C))∧PySem.W.kitOne K (.ref C) u=some b
section
variable {X:Cx} {cn:Str} {b:Bool} {a t:Expr} {fa:DE} {p pos:Pos} {u:Value} {v:V}
theorem se_isX(hg:Gl X "isinstance")(hm:X.mg "isinstance" = none)(c:ClassX X.K cn)(i:IsX X.K cn u b)(ha:SE X a fa)(ht:PE X t (tC v))(hv:∀ u',RelV v u'→u'=u)
  (he:starEach [a,t] X.env=(false,eval a X.env) :: starEach [t] X.env:=by rfl) (he2:starEach [t] X.env=(false,eval t X.env) :: starEach [] X.env:=by rfl) (hpl:(backTo pos (starEach [t] X.env)).any (·.1)=false:=by rfl) :
  SE X (.Call (.Name "isinstance" p) [a,t] [] pos) (dIsX cn b fa):=PE.imp (pe_callB call_isinstX hg hm PyProof.Rows.boot_isinstance (pa_cons ha (pa_cons ht pa_nil he2) he) (by decide) (by decide) he hpl) fun σ H Q ⟨π,α,δ,h,Q',R,S,f,k⟩=>by
 obtain ⟨C,hns,cl⟩:=c.ex
 obtain ⟨C',hns',e⟩:=i.ex
 rw [hns] at hns';cases hns'
 refine ⟨π,α,δ,h,_,R,S,f,fun d h1 α1 H1 v1 f1 e1 R1 q1=>?_⟩
 cases q1 with
 |@exc a' C2 dx cn2 fs n2 va vd =>
  obtain ⟨rfl,f1⟩:=f1
  rw [hns] at n2;cases n2
  exact ⟨a',dx,C,v,u,b,rfl,va.2.2,vd.dict,cl,e,hv,k _ h1 α1 H1 _ f1 e1 R1 (.bl _)⟩
 |_=>exact f1.elim
theorem se_isN{x:Str}{p2:Pos}(hg:Gl X "isinstance")(hm:X.mg "isinstance" = none)(c:ClassX X.K cn)(i:∃ CX,X.mg x=some (.ref CX)∧IsX X.K cn (.ref CX) b)(hx:Gl X x)(ha:SE X a fa)(hdb:(x == ("__debug__":Str))=false:=by decide)
  (he:starEach [a,.Name x p2] X.env=(false,eval a X.env) :: starEach [.Name x p2] X.env:=by rfl) (he2:starEach [.Name x p2] X.env=(false,eval (.Name x p2) X.env) :: starEach [] X.env:=by rfl) (hpl:(backTo pos (starEach [.Name x p2] X.env)).any (·.1)=false:=by rfl) :
  SE X (.Call (.Name "isinstance" p) [a,.Name x p2] [] pos) (dIsX cn b fa):=by
 obtain ⟨CX,h1,h2⟩:=i
 exact se_isX hg hm c h2 ha (pe_glob (v:=.ref CX) hx h1 rfl hdb) (fun _ h=>h) he he2 hpl
theorem boot_ValueError:bootBuiltins "ValueError" = some (.type "ValueError"):=by kernel_rfl
theorem se_isV{p2:Pos}(hg:Gl X "isinstance")(hm:X.mg "isinstance" = none)(c:ClassX X.K cn)(i:IsX X.K cn (.type "ValueError") b)(hx:Gl X "ValueError")(hv:X.mg "ValueError" = none)(ha:SE X a fa)
  (he:starEach [a,.Name "ValueError" p2] X.env=(false,eval a X.env) :: starEach [.Name "ValueError" p2] X.env:=by rfl) (he2:starEach [.Name "ValueError" p2] X.env=(false,eval (.Name "ValueError" p2) X.env) :: starEach [] X.env:=by rfl) (hpl:(backTo pos (starEach [.Name "ValueError" p2] X.env)).any (·.1)=false:=by rfl) :
  SE X (.Call (.Name "isinstance" p) [a,.Name "ValueError" p2] [] pos) (dIsX cn b fa):=se_isX hg hm c i ha (pe_bltn (v:=.ty "ValueError") hx hv boot_ValueError rfl) (fun _ h=>h) he he2 hpl
theorem se_xa{name:Str}(c:AttrX X.K cn name)(ha:SE X a fa)(hb:attributeBase a name X.env (eval a X.env)=eval a X.env:=by rfl):SE X (.Attribute a name pos) (dXA cn name fa):=PE.imp (pe_xa ha hb) fun σ H Q zz0=>by
 obtain ⟨π,α,δ,h,Q',R,S,f,k⟩:=zz0
 obtain ⟨C,f',hns,cl,na⟩:=c.ex
 refine ⟨π,α,δ,h,_,R,S,f,fun d h1 α1 H1 v1 f1 e1 R1 q1=>?_⟩
 cases q1 with
 |@exc a' C2 dx cn2 fs n2 va vd =>
  obtain ⟨rfl,f1⟩:=f1
  rw [hns] at n2;cases n2
  cases l:fs.lookup name with
  |none=>rw [l] at f1;exact f1.elim
  |some i =>
   rw [l] at f1
   rcases vd with ⟨_,rfl⟩ | ⟨dx,rfl,vd⟩
   ·cases l
   exact ⟨a',dx,C,f',fs,i,rfl,va.2.2,vd.2.2,cl,na,l,k _ h1 α1 H1 _ f1 e1 R1 (.int _)⟩
 |_=>exact f1.elim
end
end DL
namespace L2
open PySem PySem.Spec PyProof.Rows
open Sem (wp)
section
variable {prog:Program} {w:World} {A:Around} {E:Value→Shared→Prop} {h:Heap} {g:Array GenState} {d:Drawn} {t:Nat} {os:OsState}
variable {nm q:Str} {C N:Addr} {bs bm bmB:List Value} {hdct:Bool} {sn:List Str} {sub:List Value} {ab:Bool} {col:Option Bool} {dd:Option Addr} {k0 k1 k2 k3 k5:Option Value} {B Bn newId nid initId inN:String} {bmN:List Value}
end
section
variable {X:Cx} {E:XK} {k:Nat} {C:Addr} {x:Str} {p pos cpos:Pos} {e:Expr} {t:TA}
end
end L2
namespace DL
open PySem PySem.Spec L2
noncomputable def dRaise0(cn:Str)(js:List Nat):DS:=fun En δ h=>(∀ j ∈ js,∃ a:Int,δ[j]?=some (some (.int a))∧a.natAbs.log2 < 1920)∧En.ex cn [] h
section
variable {X:Cx} {E:XK} {k n:Nat} {x:Str} {p pos p2 cpos:Pos} {e e2:Expr} {rest:List Expr} {t:L2.St→Hp→Prop} {js:List Nat}
end
end DL
namespace L2
open PySem PySem.Spec PyProof.Rows DL
section
variable {X:Cx}
theorem call_isinstT:CallR X (.builtin "isinstance") (fun xs H Q=>∃ a d C tp vs b,xs=[.ref a,.ref tp]∧H a=some (.ext (xAny C d a))∧(∀ d',d=some d'→∃ fs,H d'=some (.ext (xDict fs d')))∧XIs X.K C∧H tp=some (.tup vs)∧(∀ us,Vals vs us→PySem.W.kitAny X.K (.ref C) us=some b)∧Q (.bl b) H):=by
 intro pins s σ H xs us Q I r h
 obtain ⟨a,d,C,tp,vs,b,rfl,ha,hd,c,ht,e,q⟩:=h
 obtain ⟨u1,u2,rfl,ru,rw'⟩:=vals2 r
 cases ru
 cases rw'
 obtain ⟨ox,od,J⟩:=exc_atO I.hok ha hd
 obtain ⟨_,its,rv,⟨o,ho,hc,n,hdat⟩⟩:=I.hok _ _ ht
 obtain ⟨ocls,odict,odata,oslots⟩:=o
 simp only at hc hdat
 subst hc;subst hdat
 exact PySem.W.kia_tup (kitx_exc c) I.kIn J ho (e its rv) (fun z=>nomatch z) fun tk=>⟨.bl b,H,I.tok _,rfl,q⟩
end
end L2
namespace DL
open PySem PySem.Spec L2
section
variable {X:Cx} {cn:Str} {a:Expr} {fa:DE} {p pos:Pos} {x1 x2 x3:Str} {p1 p2 p3 tpos:Pos} {ctx:Nat}
end
section
variable {X:Cx} {o e e2:Expr} {fo:DE} {cpos apos:Pos}
end
end DL
namespace DL
open PySem PySem.Spec L2
section
variable {X:Cx} {cn:Str} {a:Expr} {fa:DE} {p pos:Pos} {x1 x2 x3 x4 x5 x6:Str} {p1 p2 p3 p4 p5 p6 tpos:Pos} {ctx:Nat}
theorem kit6{K:PySem.W.Frag}{t c1 c2 c3 c4 c5 c6:Value}(h1:PySem.W.kitOne K t c1=some false)(h2:PySem.W.kitOne K t c2=some false)(h3:PySem.W.kitOne K t c3=some false)(h4:PySem.W.kitOne K t c4=some false)(h5:PySem.W.kitOne K t c5=some false)(h6:PySem.W.kitOne K t c6=some false):PySem.W.kitAny K t [c1,c2,c3,c4,c5,c6]=some false:=by
 simp only [PySem.W.kitAny,h1,h2,h3,h4,h5,h6]
theorem se_is6(hg:Gl X "isinstance")(hm:X.mg "isinstance" = none)(c:ClassX X.K cn)(i1:∃ CX,X.mg x1=some (.ref CX)∧IsX X.K cn (.ref CX) false)(i2:∃ CX,X.mg x2=some (.ref CX)∧IsX X.K cn (.ref CX) false)(i3:∃ CX,X.mg x3=some (.ref CX)∧IsX X.K cn (.ref CX) false)(i4:∃ CX,X.mg x4=some (.ref CX)∧IsX X.K cn (.ref CX) false)(i5:∃ CX,X.mg x5=some (.ref CX)∧IsX X.K cn (.ref CX) false)(i6:∃ CX,X.mg x6=some (.ref CX)∧IsX X.K cn (.ref CX) false)
  (g1:Gl X x1) (g2:Gl X x2) (g3:Gl X x3) (g4:Gl X x4) (g5:Gl X x5) (g6:Gl X x6) (ha:SE X a fa) (d1:(x1 == ("__debug__":Str))=false:=by decide) (d2:(x2 == ("__debug__":Str))=false:=by decide) (d3:(x3 == ("__debug__":Str))=false:=by decide) (d4:(x4 == ("__debug__":Str))=false:=by decide) (d5:(x5 == ("__debug__":Str))=false:=by decide) (d6:(x6 == ("__debug__":Str))=false:=by decide)
  (s1:starEach [.Name x1 p1,.Name x2 p2,.Name x3 p3,.Name x4 p4,.Name x5 p5,.Name x6 p6] X.env=(false,eval (.Name x1 p1) X.env) :: starEach [.Name x2 p2,.Name x3 p3,.Name x4 p4,.Name x5 p5,.Name x6 p6] X.env:=by rfl) (s2:starEach [.Name x2 p2,.Name x3 p3,.Name x4 p4,.Name x5 p5,.Name x6 p6] X.env=(false,eval (.Name x2 p2) X.env) :: starEach [.Name x3 p3,.Name x4 p4,.Name x5 p5,.Name x6 p6] X.env:=by rfl) (s3:starEach [.Name x3 p3,.Name x4 p4,.Name x5 p5,.Name x6 p6] X.env=(false,eval (.Name x3 p3) X.env) :: starEach [.Name x4 p4,.Name x5 p5,.Name x6 p6] X.env:=by rfl) (s4:starEach [.Name x4 p4,.Name x5 p5,.Name x6 p6] X.env=(false,eval (.Name x4 p4) X.env) :: starEach [.Name x5 p5,.Name x6 p6] X.env:=by rfl) (s5:starEach [.Name x5 p5,.Name x6 p6] X.env=(false,eval (.Name x5 p5) X.env) :: starEach [.Name x6 p6] X.env:=by rfl) (s6:starEach [.Name x6 p6] X.env=(false,eval (.Name x6 p6) X.env) :: starEach [] X.env:=by rfl)
  (he:starEach [a,.Tuple [.Name x1 p1,.Name x2 p2,.Name x3 p3,.Name x4 p4,.Name x5 p5,.Name x6 p6] ctx tpos] X.env=(false,eval a X.env) :: starEach [.Tuple [.Name x1 p1,.Name x2 p2,.Name x3 p3,.Name x4 p4,.Name x5 p5,.Name x6 p6] ctx tpos] X.env:=by rfl)
  (he2:starEach [.Tuple [.Name x1 p1,.Name x2 p2,.Name x3 p3,.Name x4 p4,.Name x5 p5,.Name x6 p6] ctx tpos] X.env=(false,eval (.Tuple [.Name x1 p1,.Name x2 p2,.Name x3 p3,.Name x4 p4,.Name x5 p5,.Name x6 p6] ctx tpos) X.env) :: starEach [] X.env:=by rfl) (hpl:(backTo pos (starEach [.Tuple [.Name x1 p1,.Name x2 p2,.Name x3 p3,.Name x4 p4,.Name x5 p5,.Name x6 p6] ctx tpos] X.env)).any (·.1)=false:=by rfl) :
  SE X (.Call (.Name "isinstance" p) [a,.Tuple [.Name x1 p1,.Name x2 p2,.Name x3 p3,.Name x4 p4,.Name x5 p5,.Name x6 p6] ctx tpos] [] pos) (dIsX cn false fa):=by
 obtain ⟨C1,m1,k1⟩:=i1
 obtain ⟨C2,m2,k2⟩:=i2
 obtain ⟨C3,m3,k3⟩:=i3
 obtain ⟨C4,m4,k4⟩:=i4
 obtain ⟨C5,m5,k5⟩:=i5
 obtain ⟨C6,m6,k6⟩:=i6
 refine PE.imp (pe_callB call_isinstT hg hm PyProof.Rows.boot_isinstance (pa_cons ha (pa_cons (pe_tup (pa_cons (pe_glob (v:=.ref C1) g1 m1 rfl d1) (pa_cons (pe_glob (v:=.ref C2) g2 m2 rfl d2) (pa_cons (pe_glob (v:=.ref C3) g3 m3 rfl d3) (pa_cons (pe_glob (v:=.ref C4) g4 m4 rfl d4) (pa_cons (pe_glob (v:=.ref C5) g5 m5 rfl d5) (pa_cons (pe_glob (v:=.ref C6) g6 m6 rfl d6) pa_nil s6) s5) s4) s3) s2) s1)) pa_nil he2) he) (by decide) (by decide) he hpl) fun σ H Q zz0=>?_
 obtain ⟨π,α,δ,h,Q',R,S,f,k⟩:=zz0
 obtain ⟨C,hns,cl⟩:=c.ex
 obtain ⟨C',hns',e1⟩:=k1.ex
 rw [hns] at hns';cases hns'
 obtain ⟨C',hns',e2⟩:=k2.ex
 rw [hns] at hns';cases hns'
 obtain ⟨C',hns',e3⟩:=k3.ex
 rw [hns] at hns';cases hns'
 obtain ⟨C',hns',e4⟩:=k4.ex
 rw [hns] at hns';cases hns'
 obtain ⟨C',hns',e5⟩:=k5.ex
 rw [hns] at hns';cases hns'
 obtain ⟨C',hns',e6⟩:=k6.ex
 rw [hns] at hns';cases hns'
 refine ⟨π,α,δ,h,_,R,S,f,fun d h1 α1 H1 v1 f1 x1 R1 q1=>⟨(by decide:6 ≤ sizeLine),fun tp htp=>?_⟩⟩
 have x2:Ext α1 H1 α1 (upd H1 tp (.tup [.ref C1,.ref C2,.ref C3,.ref C4,.ref C5,.ref C6])):=Ext.new htp
 have q2:=q1.mono x2
 cases q2 with
 |@exc a' C2' dx cn2 fs n2 va vd =>
  obtain ⟨rfl,f1⟩:=f1
  rw [hns] at n2;cases n2
  refine ⟨a',dx,C,tp,_,false,rfl,va.2.2,vd.dict,cl,upd_same,fun us r=>?_,k _ h1 α1 _ _ f1 (x1.trans x2) (R1.new htp) (.bl _)⟩
  rcases r with _ | ⟨r1,r⟩
  rcases r with _ | ⟨r2,r⟩
  rcases r with _ | ⟨r3,r⟩
  rcases r with _ | ⟨r4,r⟩
  rcases r with _ | ⟨r5,r⟩
  rcases r with _ | ⟨r6,r⟩
  cases r
  cases r1;cases r2;cases r3;cases r4;cases r5;cases r6
  exact kit6 e1 e2 e3 e4 e5 e6
 |_=>exact f1.elim
end
end DL
namespace K32
open PySem L2 DL CM
def vvA : String := "dAsg dName dVar dC dOp dUn dTst dTr dAnd dOr dNot dAndV dOrV dNotV dIf dIfS dRet dRetN dDrop dNext dNever dCB dCal dCons dNil dTup dV dTk dListOf dBits dIsinst dChain dPart dNoPart dSl dGNil dGCons dUnp dAug dAugS dSubL dAppend dExtend dPop dClear dFor dISeq dIRange dIEnum dIEnum1 dComp dNoIf dCatN dRepN dSlL dBreak dCont pI pI0 pB0 pNeg pIs pIx pEq pLtI pLen pTuple pInt pMin pMax pAbs pPlus pAdd pMulI pIn dGet dRaise dRaise0 dTryS dTryD dTryE dIsX dXA dCalX dIxX dDropX dRetX reduceIte"
def vvB : String := "setD compSl isN_non isN_bl isN_int isN_str isN_tup isN_lst isN_ref eqS List.map_cons List.map_nil List.cons_append List.nil_append List.length_cons List.length_nil List.replicate List.getElem?_cons_zero List.getElem?_cons_succ List.set_cons_zero List.set_cons_succ Option.getD_some Option.getD_none List.getElem?_nil Bool.false_eq_true Bool.not_true Bool.not_false if_true if_false ite_true ite_false eq_self_iff_true decide_true decide_false Nat.reduceSub Nat.reduceAdd Nat.sub_zero Nat.sub_self Nat.zero_add Option.map_some Option.map_none Option.bind_some Option.bind_none lsOf_lst seqOf_lst seqSrc_lst lenD_lst ixD_lst trD_lst lsOf_scr seqOf_scr seqSrc_scr lenD_scr ixD_scr trD_scr lsP_lst lsP_tup lsP_int lsP_str seqOf_tup seqSrc_tup lenD_tup ixD_tup trD_tup trD_non trD_bl trD_int kindD_non kindD_bl kindD_int kindD_str kindD_tup kindD_lst isK_NoneType_bool isK_NoneType_int isK_NoneType_str isK_NoneType_tuple isK_NoneType_list isK_NoneType_dict isK_bool_bool isK_bool_int isK_bool_str isK_bool_tuple isK_bool_list isK_bool_dict isK_int_bool isK_int_int isK_int_str isK_int_tuple isK_int_list isK_int_dict isK_str_bool isK_str_int isK_str_str isK_str_tuple isK_str_list isK_str_dict isK_tuple_bool isK_tuple_int isK_tuple_str isK_tuple_tuple isK_tuple_list isK_tuple_dict isK_list_bool isK_list_int isK_list_str isK_list_tuple isK_list_list isK_list_dict isK_dict_bool isK_dict_int isK_dict_str isK_dict_tuple isK_dict_list isK_dict_dict ixN_10 ixN_0 at1_0 at2_0 at2_1 at3_0 at3_1 at3_2 at4_0 at4_1 at4_2 at4_3 at5_0 at5_1 at5_2 at5_3 at5_4 at6_0 at6_1 at6_2 at6_3 at6_4 at6_5 at7_0 at7_1 at7_2 at7_3 at7_4 at7_5 at7_6 at8_0 at8_1 at8_2 at8_3 at8_4 at8_5 at8_6 at8_7 sk_step sq_step_step sq_step_call sq_step_in sq_step_over sq_step_begin sq_step_start sq_step_short sq_step_along sq_step_within sq_step_at sq_step_out sk_call sq_call_step sq_call_call sq_call_in sq_call_over sq_call_begin sq_call_start sq_call_short sq_call_along sq_call_within sq_call_at sq_call_out sk_in sq_in_step sq_in_call sq_in_in sq_in_over sq_in_begin sq_in_start sq_in_short sq_in_along sq_in_within sq_in_at sq_in_out sk_over sq_over_step sq_over_call sq_over_in sq_over_over sq_over_begin sq_over_start sq_over_short sq_over_along sq_over_within sq_over_at sq_over_out sk_begin sq_begin_step sq_begin_call sq_begin_in sq_begin_over sq_begin_begin sq_begin_start sq_begin_short sq_begin_along sq_begin_within sq_begin_at sq_begin_out sk_start sq_start_step sq_start_call sq_start_in sq_start_over sq_start_begin sq_start_start sq_start_short sq_start_along sq_start_within sq_start_at sq_start_out sk_short sq_short_step sq_short_call sq_short_in sq_short_over sq_short_begin sq_short_start sq_short_short sq_short_along sq_short_within sq_short_at sq_short_out sk_along sq_along_step sq_along_call sq_along_in sq_along_over sq_along_begin sq_along_start sq_along_short sq_along_along sq_along_within sq_along_at sq_along_out sk_within sq_within_step sq_within_call sq_within_in sq_within_over sq_within_begin sq_within_start sq_within_short sq_within_along sq_within_within sq_within_at sq_within_out sk_at sq_at_step sq_at_call sq_at_in sq_at_over sq_at_begin sq_at_start sq_at_short sq_at_along sq_at_within sq_at_at sq_at_out sk_out sq_out_step sq_out_call sq_out_in sq_out_over sq_out_begin sq_out_start sq_out_short sq_out_along sq_out_within sq_out_at sq_out_out Bool.and_self Bool.and_true"
local macro_rules | `(tactic| simp only [VV]) => do
  let as := ((vvA.splitOn " ")).toArray.map fun s => Lean.mkIdent s.toName
  let bs := ((vvB.splitOn " ")).toArray.map fun s => Lean.mkIdent s.toName
  `(tactic| simp only [$[↓$as:ident],*, $[$bs:ident],*])
local macro_rules | `(tactic| simp only [$xs,*, VV]) => do
  let as := ((vvA.splitOn " ")).toArray.map fun s => Lean.mkIdent s.toName
  let bs := ((vvB.splitOn " ")).toArray.map fun s => Lean.mkIdent s.toName
  `(tactic| simp only [$xs,*, $[↓$as:ident],*, $[$bs:ident],*])
local macro_rules | `(tactic| simp only [VV0]) => do
  let as := ((vvA.splitOn " ").filter (fun s => !(["dIfS"] : List String).contains s)).toArray.map fun s => Lean.mkIdent s.toName
  let bs := ((vvB.splitOn " ").filter (fun s => !(["dIfS"] : List String).contains s)).toArray.map fun s => Lean.mkIdent s.toName
  `(tactic| simp only [$[↓$as:ident],*, $[$bs:ident],*])
local macro_rules | `(tactic| simp only [$xs,*, VV0]) => do
  let as := ((vvA.splitOn " ").filter (fun s => !(["dIfS"] : List String).contains s)).toArray.map fun s => Lean.mkIdent s.toName
  let bs := ((vvB.splitOn " ").filter (fun s => !(["dIfS"] : List String).contains s)).toArray.map fun s => Lean.mkIdent s.toName
  `(tactic| simp only [$xs,*, $[↓$as:ident],*, $[$bs:ident],*])
local macro_rules | `(tactic| simp only [VV1]) => do
  let as := ((vvA.splitOn " ").filter (fun s => !(["eqS", "pEq"] : List String).contains s)).toArray.map fun s => Lean.mkIdent s.toName
  let bs := ((vvB.splitOn " ").filter (fun s => !(["eqS", "pEq"] : List String).contains s)).toArray.map fun s => Lean.mkIdent s.toName
  `(tactic| simp only [$[↓$as:ident],*, $[$bs:ident],*])
local macro_rules | `(tactic| simp only [$xs,*, VV1]) => do
  let as := ((vvA.splitOn " ").filter (fun s => !(["eqS", "pEq"] : List String).contains s)).toArray.map fun s => Lean.mkIdent s.toName
  let bs := ((vvB.splitOn " ").filter (fun s => !(["eqS", "pEq"] : List String).contains s)).toArray.map fun s => Lean.mkIdent s.toName
  `(tactic| simp only [$xs,*, $[↓$as:ident],*, $[$bs:ident],*])
local macro_rules | `(tactic| simp only [VV2]) => do
  let as := ((vvA.splitOn " ").filter (fun s => !(["setD"] : List String).contains s)).toArray.map fun s => Lean.mkIdent s.toName
  let bs := ((vvB.splitOn " ").filter (fun s => !(["setD"] : List String).contains s)).toArray.map fun s => Lean.mkIdent s.toName
  `(tactic| simp only [$[↓$as:ident],*, $[$bs:ident],*])
local macro_rules | `(tactic| simp only [$xs,*, VV2]) => do
  let as := ((vvA.splitOn " ").filter (fun s => !(["setD"] : List String).contains s)).toArray.map fun s => Lean.mkIdent s.toName
  let bs := ((vvB.splitOn " ").filter (fun s => !(["setD"] : List String).contains s)).toArray.map fun s => Lean.mkIdent s.toName
  `(tactic| simp only [$xs,*, $[↓$as:ident],*, $[$bs:ident],*])
noncomputable def top(i:Nat):Stmt:=PySem.Challenge.pw_callmatch_k32_no_paper.main.body.getD i (.Pass ⟨0,0,0,0⟩)
noncomputable def clsFn:Stmt→Nat→Stmt
 |.ClassDef _ _ _ body _ _ _ _ _ _ _,k=>body.getD k (.Pass ⟨0,0,0,0⟩)
 |s,_=>s
noncomputable abbrev s_q29:Stmt:=top 10
noncomputable abbrev s_q28:Stmt:=top 14
noncomputable abbrev s_q35:Stmt:=top 15
noncomputable abbrev s_q23:Stmt:=top 20
noncomputable abbrev s_q21:Stmt:=top 21
noncomputable abbrev s_q32:Stmt:=top 27
noncomputable abbrev s_q1:Stmt:=top 29
noncomputable abbrev s_q11:Stmt:=top 30
noncomputable abbrev s_q4:Stmt:=top 36
noncomputable abbrev s_q0:Stmt:=top 37
noncomputable abbrev s_q8:Stmt:=top 38
noncomputable abbrev s_q9:Stmt:=top 42
noncomputable abbrev s_q22:Stmt:=top 11
noncomputable abbrev s_q34:Stmt:=top 22
noncomputable abbrev s_q20:Stmt:=top 26
noncomputable abbrev s_q5:Stmt:=top 31
noncomputable abbrev s_q18:Stmt:=top 32
noncomputable abbrev s_q17:Stmt:=top 35
noncomputable abbrev s_q15:Stmt:=top 39
noncomputable abbrev s_q12:Stmt:=top 40
noncomputable abbrev s_q10:Stmt:=top 43
noncomputable abbrev s_q16:Stmt:=top 46
noncomputable abbrev s_q27:Stmt:=top 16
noncomputable abbrev s_q7:Stmt:=top 33
noncomputable abbrev s_q3:Stmt:=top 41
noncomputable abbrev s_q14:Stmt:=top 44
noncomputable abbrev s_q26:Stmt:=top 23
noncomputable abbrev s_q33:Stmt:=top 24
noncomputable abbrev s_q30:Stmt:=top 25
noncomputable abbrev s_q2:Stmt:=top 34
noncomputable abbrev s_q13:Stmt:=top 45
noncomputable abbrev s_q6:Stmt:=top 47
noncomputable abbrev s_q24:Stmt:=top 19
noncomputable abbrev s_q25:Stmt:=top 18
noncomputable abbrev s_q19:Stmt:=top 48
noncomputable abbrev s_q31:Stmt:=top 49
theorem sc_q29:FnScope ["mask"] ["mask"] (defScope s_q29):=⟨rfl,rfl,rfl,by decide +kernel,rfl,by decide +kernel,by decide +kernel⟩
theorem sc_q28:FnScope ["chart","f"] ["chart","f"] (defScope s_q28):=⟨rfl,rfl,rfl,by decide +kernel,rfl,by decide +kernel,by decide +kernel⟩
theorem sc_q35:FnScope ["chart","start"] ["chart","start"] (defScope s_q35):=⟨rfl,rfl,rfl,by decide +kernel,rfl,by decide +kernel,by decide +kernel⟩
theorem sc_q23:FnScope ["ahead","k","sort"] ["ahead","k","sort"] (defScope s_q23):=⟨rfl,rfl,rfl,by decide +kernel,rfl,by decide +kernel,by decide +kernel⟩
theorem sc_q21:FnScope ["chart","row","f","d"] ["chart","row"] (defScope s_q21):=⟨rfl,rfl,rfl,by decide +kernel,rfl,by decide +kernel,by decide +kernel⟩
theorem sc_q32:FnScope ["row"] ["row"] (defScope s_q32):=⟨rfl,rfl,rfl,by decide +kernel,rfl,by decide +kernel,by decide +kernel⟩
theorem sc_q1:FnScope ["_law_script","_law_k","_law_number"] ["_law_script","_law_k"] (defScope s_q1):=⟨rfl,rfl,rfl,by decide +kernel,rfl,by decide +kernel,by decide +kernel⟩
theorem sc_q11:FnScope ["_law_state","_law_many"] ["_law_state","_law_many"] (defScope s_q11):=⟨rfl,rfl,rfl,by decide +kernel,rfl,by decide +kernel,by decide +kernel⟩
theorem sc_q4:FnScope ["_law_chart_here"] ["_law_chart_here"] (defScope s_q4):=⟨rfl,rfl,rfl,by decide +kernel,rfl,by decide +kernel,by decide +kernel⟩
theorem sc_q0:FnScope ["_law_table_here","_law_one","_law_other"] ["_law_table_here","_law_one","_law_other"] (defScope s_q0):=⟨rfl,rfl,rfl,by decide +kernel,rfl,by decide +kernel,by decide +kernel⟩
theorem sc_q8:FnScope ["_law_chart_here","_law_f","_law_n","_law_sort","_law_p"] ["_law_chart_here","_law_f","_law_n","_law_sort","_law_p"] (defScope s_q8):=⟨rfl,rfl,rfl,by decide +kernel,rfl,by decide +kernel,by decide +kernel⟩
theorem sc_q9:FnScope ["_law_mask"] ["_law_mask"] (defScope s_q9):=⟨rfl,rfl,rfl,by decide +kernel,rfl,by decide +kernel,by decide +kernel⟩
theorem sc_q22:FnScope ["table","d","e"] ["table","d","e"] (defScope s_q22):=⟨rfl,rfl,rfl,by decide +kernel,rfl,by decide +kernel,by decide +kernel⟩
theorem sc_q34:FnScope ["chart","start","row","d"] ["chart","start","row"] (defScope s_q34):=⟨rfl,rfl,rfl,by decide +kernel,rfl,by decide +kernel,by decide +kernel⟩
theorem sc_q20:FnScope ["ahead","row","base","moved","f"] ["ahead","row"] (defScope s_q20):=⟨rfl,rfl,rfl,by decide +kernel,rfl,by decide +kernel,by decide +kernel⟩
theorem sc_q5:FnScope ["_law_state"] ["_law_state"] (defScope s_q5):=⟨rfl,rfl,rfl,by decide +kernel,rfl,by decide +kernel,by decide +kernel⟩
theorem sc_q18:FnScope ["_law_state","_law_many","_law_facts_here","_law_masks","_law_d","_law_mask"] ["_law_state","_law_many","_law_facts_here"] (defScope s_q18):=⟨rfl,rfl,rfl,by decide +kernel,rfl,by decide +kernel,by decide +kernel⟩
theorem sc_q17:FnScope ["_law_script","_law_chart_here"] ["_law_script","_law_chart_here"] (defScope s_q17):=⟨rfl,rfl,rfl,by decide +kernel,rfl,by decide +kernel,by decide +kernel⟩
theorem sc_q15:FnScope ["_law_chart_here","_law_one","_law_n","_law_other","_law_e","_law_edge_here"] ["_law_chart_here","_law_one","_law_n","_law_other","_law_e"] (defScope s_q15):=⟨rfl,rfl,rfl,by decide +kernel,rfl,by decide +kernel,by decide +kernel⟩
theorem sc_q12:FnScope ["_law_chart_here","_law_one","_law_sort","_law_n","_law_e","_law_word","_law_edge_here"] ["_law_chart_here","_law_one","_law_sort","_law_n","_law_e"] (defScope s_q12):=⟨rfl,rfl,rfl,by decide +kernel,rfl,by decide +kernel,by decide +kernel⟩
theorem sc_q10:FnScope ["_law_chart_here","_law_done","_law_edge_here","_law_d","_law_found","_law_last","_law_j","_law_one"] ["_law_chart_here","_law_done","_law_edge_here","_law_d"] (defScope s_q10):=⟨rfl,rfl,rfl,by decide +kernel,rfl,by decide +kernel,by decide +kernel⟩
theorem sc_q16:FnScope ["_law_rows","_law_state","_law_turn","_law_at","_law_row","_law_way","_law_other","_law_k","_law_some"] ["_law_rows","_law_state"] (defScope s_q16):=⟨rfl,rfl,rfl,by decide +kernel,rfl,by decide +kernel,by decide +kernel⟩
theorem sc_q27:FnScope ["chart","here","move","edges","n","edge"] ["chart","here","move"] (defScope s_q27):=⟨rfl,rfl,rfl,by decide +kernel,rfl,by decide +kernel,by decide +kernel⟩
theorem sc_q7:FnScope ["_law_cell_here","_law_heads","_law_f","_law_most","_law_state","_law_places","_law_facts_here","_law_p","_law_q","_law_cost_here","_law_g","_law_others","_law_into","_law_home","_law_over"] ["_law_cell_here","_law_heads","_law_f","_law_most"] (defScope s_q7):=⟨rfl,rfl,rfl,by decide +kernel,rfl,by decide +kernel,by decide +kernel⟩
theorem sc_q3:FnScope ["_law_chart_here","_law_start_here","_law_done","_law_row","_law_one","_law_j"] ["_law_chart_here","_law_start_here","_law_done","_law_row"] (defScope s_q3):=⟨rfl,rfl,rfl,by decide +kernel,rfl,by decide +kernel,by decide +kernel⟩
theorem sc_q14:FnScope ["_law_chart_here","_law_done","_law_k","_law_one","_law_f","_law_p","_law_d","_law_found","_law_some","_law_n","_law_edge_here","_law_word"] ["_law_chart_here","_law_done","_law_k"] (defScope s_q14):=⟨rfl,rfl,rfl,by decide +kernel,rfl,by decide +kernel,by decide +kernel⟩
theorem sc_q26:FnScope ["chart","ahead","row","base","f","edge"] ["chart","ahead","row"] (defScope s_q26):=⟨rfl,rfl,rfl,by decide +kernel,rfl,by decide +kernel,by decide +kernel⟩
theorem sc_q33:FnScope ["chart","ahead","row","base","called","f","edge"] ["chart","ahead","row"] (defScope s_q33):=⟨rfl,rfl,rfl,by decide +kernel,rfl,by decide +kernel,by decide +kernel⟩
theorem sc_q30:FnScope ["chart","ahead","row","base","edge"] ["chart","ahead","row"] (defScope s_q30):=⟨rfl,rfl,rfl,by decide +kernel,rfl,by decide +kernel,by decide +kernel⟩
theorem sc_q2:FnScope ["_law_script","_law_at","_law_many","_law_wide","_law_deep","_law_heads","_law_f","_law_cell_here","_law_edges","_law_k"] ["_law_script","_law_at","_law_many","_law_wide","_law_deep"] (defScope s_q2):=⟨rfl,rfl,rfl,by decide +kernel,rfl,by decide +kernel,by decide +kernel⟩
theorem sc_q13:FnScope ["_law_chart_here","_law_start_here","_law_cells","_law_rows","_law_done","_law_cell_here","_law_state","_law_row","_law_f","_law_k","_law_some"] ["_law_chart_here","_law_start_here","_law_cells"] (defScope s_q13):=⟨rfl,rfl,rfl,by decide +kernel,rfl,by decide +kernel,by decide +kernel⟩
theorem sc_q6:FnScope ["_law_chart_here","_law_start_here","_law_rows","_law_done","_law_at","_law_claim_here"] ["_law_chart_here","_law_start_here","_law_rows"] (defScope s_q6):=⟨rfl,rfl,rfl,by decide +kernel,rfl,by decide +kernel,by decide +kernel⟩
theorem sc_q24:FnScope ["chart","start","ahead","row"] ["chart","start","ahead","row"] (defScope s_q24):=⟨rfl,rfl,rfl,by decide +kernel,rfl,by decide +kernel,by decide +kernel⟩
theorem sc_q25:FnScope ["chart","start","rows","told","row","claim"] ["chart","start","rows"] (defScope s_q25):=⟨rfl,rfl,rfl,by decide +kernel,rfl,by decide +kernel,by decide +kernel⟩
theorem sc_q19:FnScope ["_law_chart_here","_law_start_here","_law_rows","_law_caught","_law_found","_law_e"] ["_law_chart_here","_law_start_here","_law_rows"] (defScope s_q19):=⟨rfl,rfl,rfl,by decide +kernel,rfl,by decide +kernel,by decide +kernel⟩
theorem sc_q31:FnScope ["_law_script","_law_wide","_law_chart_here","_law_start_here","_law_rows","_law_done","_law_state","_law_spoilt_here","_law_other","_law_kept","_law_handed","_law_due_here"] ["_law_script"] (defScope s_q31):=⟨rfl,rfl,rfl,by decide +kernel,rfl,by decide +kernel,by decide +kernel⟩
noncomputable def k_MOVE_TABLES:List (Key×Int):=[(.inr "step",4),(.inr "in",5),(.inr "over",7)]
structure Txt(P:Program)(w:World)(K:PySem.W.Frag)(mg:Str→Option Value):Prop where
 b_ValueError:mg "ValueError" = none
 b_bool:mg "bool" = none
 b_enumerate:mg "enumerate" = none
 b_int:mg "int" = none
 b_isinstance:mg "isinstance" = none
 b_len:mg "len" = none
 b_list:mg "list" = none
 b_min:mg "min" = none
 b_range:mg "range" = none
 b_sum:mg "sum" = none
 b_tuple:mg "tuple" = none
 c_MOVE_TABLES:∃ a,mg "MOVE_TABLES" = some (.ref a)∧KDict P w K a (k_MOVE_TABLES.map fun p=>(p.1,V.int p.2))
 k_CallError:CatchX K mg "CallError" "NoPaper"
 x_NoPaper:ClassX K "NoPaper"
 i_NoChart:∃ CX,mg "NoChart" = some (.ref CX)∧IsX K "NoPaper" (.ref CX) false
 i_NoName:∃ CX,mg "NoName" = some (.ref CX)∧IsX K "NoPaper" (.ref CX) false
 i_NoPaper:∃ CX,mg "NoPaper" = some (.ref CX)∧IsX K "NoPaper" (.ref CX) true
 i_NoTable:∃ CX,mg "NoTable" = some (.ref CX)∧IsX K "NoPaper" (.ref CX) false
 i_NoText:∃ CX,mg "NoText" = some (.ref CX)∧IsX K "NoPaper" (.ref CX) false
 i_NoWay:∃ CX,mg "NoWay" = some (.ref CX)∧IsX K "NoPaper" (.ref CX) false
 i_TooLong:∃ CX,mg "TooLong" = some (.ref CX)∧IsX K "NoPaper" (.ref CX) false
 i_ValueError:IsX K "NoPaper" (.type "ValueError") true
 a_row:AttrX K "NoPaper" "row"
noncomputable abbrev s_NoPaper__init__:Stmt:=clsFn (top 7) 0
theorem sc_NoPaper__init__:FnScope ["self","row"] ["self","row"] (defScope s_NoPaper__init__):=⟨rfl,rfl,rfl,by decide +kernel,rfl,by decide +kernel,by decide +kernel⟩
theorem ok_NoPaper__init__{P:Program}{w:World}{K:PySem.W.Frag}{mg:Str→Option Value}{base:Heap}{C0 C f:Addr}{fd:FuncData}(F:Fun K "__init__" "NoPaper.__init__" s_NoPaper__init__ f fd)(hb:mg "CallError" = some (.ref C0))(b:XBase K C0)(c:XCls K C f)(n0:NoAttr K C "row"):FnOk P w K mg base CX0 1 f fd ["self","row"] (spI C ["row"]):=by
 refine F.ok sc_NoPaper__init__ (fun vs H Q E h=>?_) fun cdv A outer s H vs Q E hr h=>?_
 ·obtain ⟨e,is,rfl,hl,_⟩:=h
  rw [List.length_cons,List.length_map,hl];rfl
 ·obtain ⟨e,is,rfl,hl,hs,he,k⟩:=h
  match is,hl,hs,k with
  |[i0],_,hs,k =>
  refine ⟨_,pss_cons (ps_expr (pe_binit (X:=(cxOf CX0 P w K mg base ["self","row"] "NoPaper.__init__" (defScope s_NoPaper__init__) f cdv A outer s H E).nox) rfl hb b (pa_cons (pv 0) (pa_cons (pe_joined (pj_str pe_str (pj_int (pv 1) pj_nil))) pa_nil)))) (pss_one (ps_x (pv 0) (pv 1))),?_⟩
  exact ⟨_,rfl,⟨⟨i0,rfl,hs _ (by simp)⟩,trivial⟩,fun txt=>⟨e,C,f,txt,none,rfl,c,he,⟨_,rfl,_,rfl,e,C,f,i0,rfl,rfl,c,n0,.inl ⟨he,fun dx h1 h2=>k dx h1 h2⟩⟩⟩⟩
section
variable {P:Program} {w:World} {K:PySem.W.Frag} {mg:Str→Option Value} {base:Heap}
noncomputable def b_q29:DS:=(dRet (dV (dComp [none,some 0] (dIRange (dCons (dBits (dVar 0)) dNil)) (dName 0) (dTr (dOp pBand (dOp pShr (dVar 1) (dVar 0)) (dC (.int 1)))) (dVar 0))))
noncomputable def S_q29:DSp:=fun ds h Q=>∃ m:Nat,ds=[nD m]∧m < 2 ^ 60∧Q (.lst ((factsN m).map nD)) h
theorem imp_q29:∀ ds h Q,S_q29 ds h Q→runD 1 b_q29 ds h Q:=by
 rintro ds h Q ⟨m,rfl,hm,q⟩
 have hb:=bits_lt hm
 simp only [↓b_q29,↓runD,↓dSeq,↓runX,VV]
 refine ⟨⟨by first | decide | omega,by first | decide | omega⟩,by rw [rangeD_length];omega,?_⟩
 rw [rangeD_map]
 refine comp1 (fun d=>m.testBit d) nD Src.ok_nil none (fun y hy K k=>?_) (fun y hy _ K k=>?_) ?_
 ·simp only [↓b_q29,↓runD,↓dSeq,↓runX,VV]
  refine ⟨by first | decide | omega,?_⟩
  rw [show ((0:Int) + (y:Nat)).toNat=y by first | decide | omega,bitT]
  exact k
 ·simp only [↓b_q29,↓runD,↓dSeq,↓runX,VV]
  rw [Int.zero_add];exact k
 ·rw [Int.toNat_natCast]
  exact q
theorem ok_q29{f:Addr}{fd:FuncData}(F:Fun K "facts_in" "facts_in" s_q29 f fd)(T:Txt P w K mg):FnOk P w K mg base CX0 1 f fd ["mask"] (spD K 1 S_q29) :=
 fn_ok (k:=0) (b:=b_q29) F sc_q29 (fun cdv A outer s H E hr=>by
  refine ss_one ?_
  refine s_ret ?_
  refine se_v ?_
  exact sn_comp rfl (N':= ["d","mask"]) (js:=[none,some 0]) ⟨rfl,by decide +kernel,rfl,rfl,rfl⟩ (si_range1 rfl T.b_range (sa_cons (se_bits (sv 0)) sa_nil)) (fun s0 H0 fp=>⟨(sg_name (i:=0) (show (["d","mask"]:List Str).Nodup by decide +kernel) rfl (Or.inl rfl)),(sf_one (st_truth (se_op ok_band (se_op ok_shr (sv 1) (sv 0)) se_int))),(sv 0)⟩)) imp_q29
noncomputable def b_q28:DS:=(dRet (dOp pSub (dOp pIx (dOp pIx (dVar 0) (dVar 1)) (dC (.int 0))) (dC (.int 1))))
noncomputable def S_q28:DSp:=fun ds h Q=>∃ (c:D) (C:Chart) (f:Nat) (F:Fn),ds=[c,nD f]∧ChD h c C∧C[f]?=some F∧Q (.int ((F.places:Int) - 1)) h
theorem imp_q28:∀ ds h Q,S_q28 ds h Q→runD 2 b_q28 ds h Q:=by
 rintro ds h Q ⟨c,C,f,F,rfl,hc,hf,q⟩
 obtain ⟨x,e1,e2⟩:=hc.fn hf
 simp only [e1,↓b_q28,↓runD,↓dSeq,↓runX,VV]
 exact q
theorem ok_q28{f:Addr}{fd:FuncData}(F:Fun K "exit_of" "exit_of" s_q28 f fd)(T:Txt P w K mg):FnOk P w K mg base CX0 1 f fd ["chart","f"] (spD K 2 S_q28) :=
 fn_ok (k:=0) (b:=b_q28) F sc_q28 (fun cdv A outer s H E hr=>by
  refine ss_one ?_
  refine s_ret ?_
  exact se_op ok_sub (se_ix ok_ix (se_ix ok_ix (sv 0) (sv 1) (fun _ _=>rfl)) se_int (fun _ _=>rfl)) se_int) imp_q28
noncomputable def b_q35:DS:=(dRet (dV (dComp [none,some 1] (dIRange (dCons (dOp pIx (dOp pIx (dVar 0) (dC (.int 0))) (dC (.int 1))) dNil)) (dName 0) (dTr (dOp pBand (dOp pShr (dVar 1) (dVar 0)) (dC (.int 1)))) (dVar 0))))
noncomputable def S_q35:DSp:=fun ds h Q=>∃ (c:D) (C:Chart) (st:Nat) (F:Fn),ds=[c,nD st]∧ChD h c C∧C[0]?=some F∧F.facts ≤ 6∧Q (.lst (((List.range F.facts).filter fun d=>st.testBit d).map nD)) h
theorem imp_q35:∀ ds h Q,S_q35 ds h Q→runD 2 b_q35 ds h Q:=by
 rintro ds h Q ⟨c,C,st,F,rfl,hc,hf,h6,q⟩
 obtain ⟨x,e1,e2⟩:=hc.fn hf
 have e1:ixD h c (.int 0)=some (.tup [nD F.places,nD F.facts,x]):=e1
 simp only [e1,↓b_q35,↓runD,↓dSeq,↓runX,VV]
 refine ⟨⟨by first | decide | omega,by first | decide | omega⟩,by rw [rangeD_length];omega,?_⟩
 rw [rangeD_map]
 refine comp1 (fun d=>st.testBit d) nD Src.ok_nil none (fun y hy K k=>?_) (fun y hy _ K k=>?_) ?_
 ·simp only [↓b_q35,↓runD,↓dSeq,↓runX,VV]
  refine ⟨by first | decide | omega,?_⟩
  rw [show ((0:Int) + (y:Nat)).toNat=y by first | decide | omega,bitT]
  exact k
 ·simp only [↓b_q35,↓runD,↓dSeq,↓runX,VV]
  rw [Int.zero_add];exact k
 ·rw [Int.toNat_natCast]
  exact q
theorem ok_q35{f:Addr}{fd:FuncData}(F:Fun K "start_facts" "start_facts" s_q35 f fd)(T:Txt P w K mg):FnOk P w K mg base CX0 1 f fd ["chart","start"] (spD K 2 S_q35) :=
 fn_ok (k:=0) (b:=b_q35) F sc_q35 (fun cdv A outer s H E hr=>by
  refine ss_one ?_
  refine s_ret ?_
  refine se_v ?_
  exact sn_comp rfl (N':= ["d","start"]) (js:=[none,some 1]) ⟨rfl,by decide +kernel,rfl,rfl,rfl⟩ (si_range1 rfl T.b_range (sa_cons (se_ix ok_ix (se_ix ok_ix (sv 0) se_int (fun _ _=>rfl)) se_int (fun _ _=>rfl)) sa_nil)) (fun s0 H0 fp=>⟨(sg_name (i:=0) (show (["d","start"]:List Str).Nodup by decide +kernel) rfl (Or.inl rfl)),(sf_one (st_truth (se_op ok_band (se_op ok_shr (sv 1) (sv 0)) se_int))),(sv 0)⟩)) imp_q35
noncomputable def b_q23:DS:=(dSeq (dIfS (dAnd (dTst (dChain pLe pLtI (dC (.int 0)) (dVar 1) (dCB pLen (dCons (dVar 0) dNil)))) (dTst (dOp (pEq false) (dOp pIx (dOp pIx (dVar 0) (dVar 1)) (dC (.int 0))) (dVar 2)))) (dRet (dOp pIx (dVar 0) (dVar 1))) dNext)
  (dRet (dC .non)))
noncomputable def isW:Clm→Bool | .within _ _ _ _ _=>true | .at _ _ _ _=>false
noncomputable def bw:Bool→Str | true=> "within" | false=> "at"
noncomputable def aheadW(cs:List Clm)(k:Int)(w:Bool):Option Clm:=(ahead cs k).bind fun c=>if isW c=w then some c else none
noncomputable def S_q23:DSp:=fun ds h Q=>∃ (a:D) (cs:List Clm) (k:Int) (w:Bool),ds=[a,.int k,.str (bw w)]∧lsOf h a=some (cs.map clD)∧Q (oD clD (aheadW cs k w)) h
theorem imp_q23:∀ ds h Q,S_q23 ds h Q→runD 3 b_q23 ds h Q:=by
 rintro ds h Q ⟨a,cs,k,w,rfl,ha,q⟩
 delta runD runX b_q23;simp only [List.map_cons,List.map_nil,List.cons_append,List.nil_append,List.length_cons,List.length_nil,List.replicate,Nat.reduceSub,Nat.reduceAdd,Nat.zero_add,Nat.sub_self]
 (try dsimp only);refine seq_intro fun N hN=>?_
 by_cases h0:0 ≤ k
 ·by_cases h1:k < cs.length
  ·have hl:k.toNat < cs.length:=by first | decide | omega
   obtain ⟨c,hE⟩:∃ E,cs[k.toNat]?=some E:=⟨_,List.getElem?_eq_getElem hl⟩
   have ax:atI (cs.map clD) k=some (clD c):=by rw [atI_of h0,List.getElem?_map,hE];rfl
   have eq:aheadW cs k w=if isW c=w then some c else none:=by unfold aheadW ahead;rw [if_pos h0,hE];rfl
   rw [eq] at q
   cases c <;> cases w
   all_goals simp only [len_ls ha,List.length_map,h0,h1,ix_ls ha,ax,clD,bw,VV]
   all_goals first | exact q | (subst hN;exact q)
  ·have eq:aheadW cs k w=none:=by unfold aheadW ahead;rw [if_pos h0,List.getElem?_eq_none (by first | decide | omega)];rfl
   rw [eq] at q
   simp only [len_ls ha,List.length_map,h0,h1,VV]
   subst hN
   exact q
 ·have eq:aheadW cs k w=none:=by unfold aheadW ahead;rw [if_neg h0];rfl
  rw [eq] at q
  simp only [len_ls ha,List.length_map,h0,VV]
  subst hN
  exact q
theorem aheadW_T{cs:List Clm}{k:Int}{c:Clm}(h:aheadW cs k true=some c):∃ f a p d x,c = .within f a p d x∧ahead cs k=some (.within f a p d x):=by
 unfold aheadW at h
 cases q:ahead cs k with
 |none=>rw [q] at h;cases h
 |some e =>
  rw [q] at h
  cases e with
  |within f a p d x=>cases h;exact ⟨f,a,p,d,x,rfl,rfl⟩
  |«at» f p d x=>cases h
theorem aheadW_F{cs:List Clm}{k:Int}{c:Clm}(h:aheadW cs k false=some c):∃ f p d x,c = .at f p d x∧ahead cs k=some (.at f p d x):=by
 unfold aheadW at h
 cases q:ahead cs k with
 |none=>rw [q] at h;cases h
 |some e =>
  rw [q] at h
  cases e with
  |within f a p d x=>cases h
  |«at» f p d x=>cases h;exact ⟨f,p,d,x,rfl,rfl⟩
theorem aheadW_Tn{cs:List Clm}{k:Int}(h:aheadW cs k true=none):∀ f a p d x,ahead cs k ≠ some (.within f a p d x):=fun f a p d x z=>by
 unfold aheadW at h;rw [z] at h;cases h
theorem aheadW_Fn{cs:List Clm}{k:Int}(h:aheadW cs k false=none):∀ f p d x,ahead cs k ≠ some (.at f p d x):=fun f p d x z=>by
 unfold aheadW at h;rw [z] at h;cases h
theorem ok_q23{f:Addr}{fd:FuncData}(F:Fun K "claim_ahead" "claim_ahead" s_q23 f fd)(T:Txt P w K mg):FnOk P w K mg base CX0 1 f fd ["ahead","k","sort"] (spD K 3 S_q23) :=
 fn_ok (k:=0) (b:=b_q23) F sc_q23 (fun cdv A outer s H E hr=>by
  refine ss_cons ?_ ?_
  ·refine s_if ?_ ?_ ?_
   ·exact st_w (sw_and (st_chain ok_le ok_ltI se_int (sv 1) (se_callB ok_len rfl T.b_len PySem.boot_len (sa_cons (sv 0) sa_nil))) (sw_and1 (st_cmp (ok_eq hr.units) (se_ix ok_ix (se_ix ok_ix (sv 0) (sv 1) (fun _ _=>rfl)) se_int (fun _ _=>rfl)) (sv 2) (nomark _))))
   ·refine ss_one ?_
    refine s_ret ?_
    exact se_ix ok_ix (sv 0) (sv 1) (fun _ _=>rfl)
   exact ss_nil
  refine ss_one ?_
  refine s_ret ?_
  exact se_non) imp_q23
noncomputable def b_q21:DS:=(dSeq (dAsg (dOp pIx (dVar 1) (dC (.int 1))) (dName 2))
  (dSeq (dAsg (dOp pIx (dVar 1) (dC (.int 2))) (dName 3))
  (dSeq (dIfS (dAnd (dTst (dChain pLe pLtI (dC (.int 0)) (dVar 2) (dCB pLen (dCons (dVar 0) dNil)))) (dTst (dChain pLe pLtI (dC (.int 0)) (dVar 3) (dOp pIx (dOp pIx (dVar 0) (dVar 2)) (dC (.int 1)))))) (dRet (dTup (dCons (dC (.str "within")) (dCons (dVar 2) (dCons (dVar 3) (dCons (dC (.int 0)) (dCons (dVar 3) (dCons (dC (.int 0)) dNil)))))))) dNext)
  (dRet (dC .non)))))
noncomputable def S_q21:DSp:=fun ds h Q=>∃ (c:D) (C:Chart) (cs:List Clm) (st:Nat) (f d:Int),ds=[c,rD (.begin f d)]∧ChD h c C∧Q (oD clD (claimOf C st cs (.begin f d))) h
theorem imp_q21:∀ ds h Q,S_q21 ds h Q→runD 4 b_q21 ds h Q:=by
 rintro ds h Q ⟨c,C,cs,st,f,d,rfl,hc,q⟩
 delta runD runX b_q21;simp only [List.map_cons,List.map_nil,List.cons_append,List.nil_append,List.length_cons,List.length_nil,List.replicate,Nat.reduceSub,Nat.reduceAdd,Nat.zero_add,Nat.sub_self]
 (try dsimp only);refine seq_intro fun N hN=>?_
 simp only [rD,VV]
 subst hN
 (try dsimp only);refine seq_intro fun N hN=>?_
 simp only [VV]
 subst hN
 (try dsimp only);refine seq_intro fun N hN=>?_
 by_cases h0:0 ≤ f
 ·by_cases h1:f < C.length
  ·have hl:f.toNat < C.length:=by first | decide | omega
   obtain ⟨F,hF⟩:∃ E,C[f.toNat]?=some E:=⟨_,List.getElem?_eq_getElem hl⟩
   obtain ⟨x,e1,e2⟩:=hc.fn hF
   have e1:ixD h c (.int f)=some (.tup [nD F.places,nD F.facts,x]):=by
    rw [show nD f.toNat = .int f from congrArg D.int (by first | decide | omega)] at e1;exact e1
   by_cases h2:0 ≤ d
   ·by_cases h3:d < F.facts
    ·have eq:claimOf C st cs (.begin f d)=some (.within f.toNat d.toNat 0 d.toNat 0):=by
      show (if 0 ≤ f∧0 ≤ d then (C[f.toNat]?).bind fun F=>if d < F.facts then some (Clm.within f.toNat d.toNat 0 d.toNat 0) else none else none)=_
      rw [if_pos ⟨h0,h2⟩,hF];exact if_pos h3
     rw [eq] at q
     simp only [hc.len,h0,h1,e1,h2,h3,VV]
     have q:Q (.tup [.str "within",.int ((f.toNat:Nat):Int),.int ((d.toNat:Nat):Int),nD 0,.int ((d.toNat:Nat):Int),nD 0]) h:=q
     rw [Int.toNat_of_nonneg h0,Int.toNat_of_nonneg h2] at q
     exact q
    ·have eq:claimOf C st cs (.begin f d)=none:=by
      show (if 0 ≤ f∧0 ≤ d then (C[f.toNat]?).bind fun F=>if d < F.facts then some (Clm.within f.toNat d.toNat 0 d.toNat 0) else none else none)=_
      rw [if_pos ⟨h0,h2⟩,hF];exact if_neg h3
     rw [eq] at q
     simp only [hc.len,h0,h1,e1,h2,h3,VV]
     subst hN
     exact q
   ·have eq:claimOf C st cs (.begin f d)=none:=if_neg (fun z=>h2 z.2)
    rw [eq] at q
    simp only [hc.len,h0,h1,e1,h2,VV]
    subst hN
    exact q
  ·have eq:claimOf C st cs (.begin f d)=none:=by
    show (if 0 ≤ f∧0 ≤ d then (C[f.toNat]?).bind fun F=>if d < F.facts then some (Clm.within f.toNat d.toNat 0 d.toNat 0) else none else none)=_
    rw [List.getElem?_eq_none (by first | decide | omega)];split <;> rfl
   rw [eq] at q
   simp only [hc.len,h0,h1,VV]
   subst hN
   exact q
 ·have eq:claimOf C st cs (.begin f d)=none:=if_neg (fun z=>h0 z.1)
  rw [eq] at q
  simp only [hc.len,h0,VV]
  subst hN
  exact q
theorem ok_q21{f:Addr}{fd:FuncData}(F:Fun K "begin_claim" "begin_claim" s_q21 f fd)(T:Txt P w K mg):FnOk P w K mg base CX0 1 f fd ["chart","row"] (spD K 2 S_q21) :=
 fn_ok (k:=0) (b:=b_q21) F sc_q21 (fun cdv A outer s H E hr=>by
  refine ss_cons ?_ ?_
  ·refine s_set (i:=2) ?_ ?_ ?_ ?_
   ·exact sc_q21.nd
   ·exact rfl
   ·exact Or.inl rfl
   exact se_ix ok_ix (sv 1) se_int (fun _ _=>rfl)
  refine ss_cons ?_ ?_
  ·refine s_set (i:=3) ?_ ?_ ?_ ?_
   ·exact sc_q21.nd
   ·exact rfl
   ·exact Or.inl rfl
   exact se_ix ok_ix (sv 1) se_int (fun _ _=>rfl)
  refine ss_cons ?_ ?_
  ·refine s_if ?_ ?_ ?_
   ·exact st_w (sw_and (st_chain ok_le ok_ltI se_int (sv 2) (se_callB ok_len rfl T.b_len PySem.boot_len (sa_cons (sv 0) sa_nil))) (sw_and1 (st_chain ok_le ok_ltI se_int (sv 3) (se_ix ok_ix (se_ix ok_ix (sv 0) (sv 2) (fun _ _=>rfl)) se_int (fun _ _=>rfl)))))
   ·refine ss_one ?_
    refine s_ret ?_
    refine se_tup (n:=6) ?_
    refine sa_cons ?_ ?_
    ·exact se_str
    refine sa_cons ?_ ?_
    ·exact sv 2
    refine sa_cons ?_ ?_
    ·exact sv 3
    refine sa_cons ?_ ?_
    ·exact se_int
    refine sa_cons ?_ ?_
    ·exact sv 3
    refine sa_cons ?_ ?_
    ·exact se_int
    exact sa_nil
   exact ss_nil
  refine ss_one ?_
  refine s_ret ?_
  exact se_non) imp_q21
noncomputable def b_q32:DS:=(dRet (dTup (dCons (dOp pIx (dVar 0) (dC (.int 0))) (dCons (dOp pIx (dVar 0) (dC (.int 2))) (dCons (dOp pIx (dVar 0) (dC (.int 3))) dNil)))))
noncomputable def S_q32:DSp:=fun ds h Q=>∃ (a b c d:D),ds=[.tup [a,b,c,d]]∧Q (.tup [a,c,d]) h
theorem imp_q32:∀ ds h Q,S_q32 ds h Q→runD 1 b_q32 ds h Q:=by
 rintro ds h Q ⟨a,b,c,d,rfl,q⟩
 exact q
theorem ok_q32{f:Addr}{fd:FuncData}(F:Fun K "move_of" "move_of" s_q32 f fd)(T:Txt P w K mg):FnOk P w K mg base CX0 1 f fd ["row"] (spD K 1 S_q32) :=
 fn_ok (k:=0) (b:=b_q32) F sc_q32 (fun cdv A outer s H E hr=>by
  refine ss_one ?_
  refine s_ret ?_
  refine se_tup (n:=3) ?_
  refine sa_cons ?_ ?_
  ·exact se_ix ok_ix (sv 0) se_int (fun _ _=>rfl)
  refine sa_cons ?_ ?_
  ·exact se_ix ok_ix (sv 0) se_int (fun _ _=>rfl)
  refine sa_cons ?_ ?_
  ·exact se_ix ok_ix (sv 0) se_int (fun _ _=>rfl)
  exact sa_nil) imp_q32
noncomputable def b_q1:DS:=(dSeq (dIfS (dTst (dOp pLtI (dVar 1) (dCB pLen (dCons (dVar 0) dNil)))) (dRet (dOp pIx (dVar 0) (dVar 1))) dNext)
  (dSeq (dAsg (dOp pPlus (dOp pMulI (dC (.int 6007)) (dVar 1)) (dC (.int 29))) (dName 2))
  (dSeq (dIfS (dTst (dOp pGt (dCB pLen (dCons (dVar 0) dNil)) (dC (.int 0)))) (dAsg (dOp pPlus (dVar 2) (dOp pMulI (dC (.int 40961)) (dOp pIx (dVar 0) (dOp pMod (dOp pMulI (dC (.int 7)) (dVar 1)) (dCB pLen (dCons (dVar 0) dNil)))))) (dName 2)) dNext)
  (dRet (dOp pMod (dOp pMulI (dVar 2) (dVar 2)) (dC (.int 1000081)))))))
noncomputable def S_q1:DSp:=fun ds h Q=>∃ (ns:List Int) (k:Nat),ds=[.scr (ns.map .int),nD k]∧ns.length ≤ 63∧(∀ x ∈ ns,Builtin.Int.intBits x ≤ 1048576)∧k ≤ 1000∧∀ r:Int,Builtin.Int.intBits r ≤ 1048576→Q (.int r) h
theorem small_bits{r:Int}(h0:-(2 ^ 64) < r)(h1:r < 2 ^ 64):Builtin.Int.intBits r ≤ 1048576:=Nat.le_trans (intBits_le_64 h0 h1) (by decide)
theorem imp_q1:∀ ds h Q,S_q1 ds h Q→runD 3 b_q1 ds h Q:=by
 rintro ds h Q ⟨ns,k,rfl,hl,hb,hk,q⟩
 delta runD runX b_q1;simp only [List.map_cons,List.map_nil,List.cons_append,List.nil_append,List.length_cons,List.length_nil,List.replicate,Nat.reduceSub,Nat.reduceAdd,Nat.zero_add,Nat.sub_self]
 (try dsimp only);refine seq_intro fun N hN=>?_
 by_cases z:k < ns.length
 ·have e1:atI (ns.map D.int) (k:Int)=some (.int ns[k]):=by rw [atN,List.getElem?_map,List.getElem?_eq_getElem z];rfl
  have e2:((k:Int) < (ns.length:Int)):=by first | decide | omega
  simp only [List.length_map,e1,e2,VV]
  exact q _ (hb _ (List.getElem_mem z))
 ·have fin:∀ r:Int,0 ≤ r % 1000081∧r % 1000081 < 1000081:=fun r=>by first | decide | omega
  have e2:¬ ((k:Int) < (ns.length:Int)):=by first | decide | omega
  simp only [List.length_map,e2,VV]
  subst hN
  (try dsimp only);refine seq_intro fun N hN=>?_
  simp only [VV]
  refine ⟨mulS (by first | decide | omega),?_⟩
  subst hN
  (try dsimp only);refine seq_intro fun N hN=>?_
  have rest:∀ x:Int,Builtin.Int.intBits x ≤ 2000000→N [some (.scr (ns.map D.int)),some (nD k),some (.int x)] h:=fun x b3=>by
   subst hN
   simp only [VV]
   refine ⟨.of_le b3 b3 (by first | decide | omega),by first | decide | omega,?_⟩
   have:=fin (x * x)
   exact q _ (small_bits (by first | decide | omega) (by first | decide | omega))
  by_cases z0:0 < ns.length
  ·have hi:(7 * (k:Int) % (ns.length:Int)).toNat < ns.length:=by
    have:=Int.emod_lt_of_pos (7 * (k:Int)) (show (0:Int) < ns.length by first | decide | omega)
    have:=Int.emod_nonneg (7 * (k:Int)) (show (ns.length:Int) ≠ 0 by first | decide | omega)
    omega
   have e1:atI (ns.map D.int) (7 * (k:Int) % (ns.length:Int))=some (.int ns[(7 * (k:Int) % (ns.length:Int)).toNat]):=by
    rw [atI_of (Int.emod_nonneg _ (by first | decide | omega)),List.getElem?_map,List.getElem?_eq_getElem hi];rfl
   have e3:((0:Int) < (ns.length:Int)):=by first | decide | omega
   simp only [List.length_map,e1,e3,VV]
   have hx:=hb _ (List.getElem_mem hi)
   generalize ns[(7 * (k:Int) % (ns.length:Int)).toNat]=x at hx
   have b1:Builtin.Int.intBits (40961 * x) ≤ 64 + 1048576:=intBits_mul_le (intBits_le_64 (by decide) (by decide)) hx
   have b2:Builtin.Int.intBits (6007 * (k:Int) + 29 + 40961 * x) ≤ max 64 (64 + 1048576) + 1:=intBits_add_le (intBits_le_64 (by first | decide | omega) (by first | decide | omega)) b1
   exact ⟨mulS (by first | decide | omega),trivial,mulS (by first | decide | omega),rest _ (by first | decide | omega)⟩
  ·have e3:¬ ((0:Int) < (ns.length:Int)):=by first | decide | omega
   simp only [List.length_map,e3,VV]
   exact rest _ (Nat.le_trans (intBits_le_64 (by first | decide | omega) (by first | decide | omega)) (by decide))
theorem ok_q1{f:Addr}{fd:FuncData}(F:Fun K "_law_cell" "_law_cell" s_q1 f fd)(T:Txt P w K mg):FnOk P w K mg base CX0 1 f fd ["_law_script","_law_k"] (spD K 2 S_q1) :=
 fn_ok (k:=0) (b:=b_q1) F sc_q1 (fun cdv A outer s H E hr=>by
  refine ss_cons ?_ ?_
  ·refine s_if ?_ ?_ ?_
   ·exact st_cmp ok_ltI (sv 1) (se_callB ok_len rfl T.b_len PySem.boot_len (sa_cons (sv 0) sa_nil)) (nomark _)
   ·refine ss_one ?_
    refine s_ret ?_
    exact se_ix ok_ix (sv 0) (sv 1) (fun _ _=>rfl)
   exact ss_nil
  refine ss_cons ?_ ?_
  ·refine s_set (i:=2) ?_ ?_ ?_ ?_
   ·exact sc_q1.nd
   ·exact rfl
   ·exact Or.inl rfl
   exact se_op ok_plus (se_op ok_timesI se_int (sv 1)) se_int
  refine ss_cons ?_ ?_
  ·refine s_if ?_ ?_ ?_
   ·exact st_cmp ok_gt (se_callB ok_len rfl T.b_len PySem.boot_len (sa_cons (sv 0) sa_nil)) se_int (nomark _)
   ·refine ss_one ?_
    refine s_set (i:=2) ?_ ?_ ?_ ?_
    ·exact sc_q1.nd
    ·exact rfl
    ·exact Or.inl rfl
    exact se_op ok_plus (sv 2) (se_op ok_timesI se_int (se_ix ok_ix (sv 0) (se_op ok_mod (se_op ok_timesI se_int (sv 1)) (se_callB ok_len rfl T.b_len PySem.boot_len (sa_cons (sv 0) sa_nil))) (fun _ _=>rfl)))
   exact ss_nil
  refine ss_one ?_
  refine s_ret ?_
  exact se_op ok_mod (se_op ok_timesI (sv 2) (sv 2)) se_int) imp_q1
noncomputable def b_q11:DS:=(dSeq (dAsg (dOp pMod (dOp pPlus (dOp pMulI (dOp pIx (dVar 0) (dC (.int 0))) (dC (.int 69621))) (dC (.int 40503))) (dC (.int 2147483647))) (dSubL (dVar 0) (dC (.int 0))))
  (dRet (dOp pMod (dOp pDiv (dOp pIx (dVar 0) (dC (.int 0))) (dC (.int 11))) (dVar 1))))
noncomputable def S_q11:DSp:=fun ds h Q=>∃ (i:Nat) (s m:Int),ds=[.ref i,.int m]∧h[i]?=some (.lst [.int s])∧0 < m∧∀ (s':Int) (r:Nat),(r:Int) < m→Q (nD r) (h.set i (.lst [.int s']))
theorem imp_q11:∀ ds h Q,S_q11 ds h Q→runD 2 b_q11 ds h Q:=by
 rintro ds h Q ⟨i,s,m,rfl,hi,hm,q⟩
 have hil:i < h.length:=(List.getElem?_eq_some_iff.mp hi).1
 simp only [ix_ls (lsOf_ref hi),hi,↓b_q11,↓runD,↓dSeq,↓runX,VV]
 refine ⟨mulS' (by decide),by decide,?_⟩
 have e:(h.set i (.lst [.int ((s * 69621 + 40503) % 2147483647)]))[i]?=some (.lst [.int ((s * 69621 + 40503) % 2147483647)]):=List.getElem?_set_self hil
 rw [ix_ref0 e]
 simp only [↓b_q11,↓runD,↓dSeq,↓runX,VV]
 refine ⟨by first | decide | omega,hm,?_⟩
 have h1:=Int.emod_nonneg ((s * 69621 + 40503) % 2147483647 / 11) (show m ≠ 0 by first | decide | omega)
 have h2:=Int.emod_lt_of_pos ((s * 69621 + 40503) % 2147483647 / 11) hm
 have:=q ((s * 69621 + 40503) % 2147483647) ((s * 69621 + 40503) % 2147483647 / 11 % m).toNat (by first | decide | omega)
 rw [show nD ((s * 69621 + 40503) % 2147483647 / 11 % m).toNat = .int ((s * 69621 + 40503) % 2147483647 / 11 % m) from congrArg D.int (by first | decide | omega)] at this
 exact this
theorem ok_q11{f:Addr}{fd:FuncData}(F:Fun K "_law_next" "_law_next" s_q11 f fd)(T:Txt P w K mg):FnOk P w K mg base CX0 1 f fd ["_law_state","_law_many"] (spD K 2 S_q11) :=
 fn_ok (k:=0) (b:=b_q11) F sc_q11 (fun cdv A outer s H E hr=>by
  refine ss_cons ?_ ?_
  ·exact s_asg (se_op ok_mod (se_op ok_plus (se_op ok_timesI (se_ix ok_ix (sv 0) se_int (fun _ _=>rfl)) se_int) se_int) se_int) (sg_subL (sv 0) se_int)
  refine ss_one ?_
  refine s_ret ?_
  exact se_op ok_mod (se_op ok_div (se_ix ok_ix (sv 0) se_int (fun _ _=>rfl)) se_int) (sv 1)) imp_q11
noncomputable def b_q4:DS:=(dRet (dV (dComp [none,none,none] (dISeq (dVar 0)) (dUnp 3 (dGCons (dName 0) (dGCons (dName 1) (dGCons (dName 2) dGNil)))) dNoIf (dTup (dCons (dVar 0) (dCons (dVar 1) (dCons (dTk (dListOf (dCons (dVar 2) dNil))) dNil)))))))
noncomputable def fO(F:Fn):O:=.lst (F.edges.map eD)
noncomputable def cR(n:Nat)(C:Chart):D:=.lst (C.zipIdx.map fun x=>.tup [nD x.1.places,nD x.1.facts,.ref (n + x.2)])
theorem cR_ch(h g:Hh)(C:Chart):ChD (h ++ (C.map fO ++ g)) (cR h.length C) C:=by
 refine ⟨_,rfl,by simp,fun i F hF=>⟨.ref (h.length + i),?_,lsOf_ref ?_⟩⟩
 ·rw [List.getElem?_map,List.getElem?_zipIdx,hF];simp
 ·have hi:i < C.length:=(List.getElem?_eq_some_iff.mp hF).1
  rw [List.getElem?_append_right (by first | decide | omega),show h.length + i - h.length=i by first | decide | omega,List.getElem?_append_left (by simpa using hi),List.getElem?_map,hF];rfl
noncomputable def S_q4:DSp:=fun ds h Q=>∃ (C:Chart),ds=[cD C]∧C.length ≤ 6∧Q (cR h.length C) (h ++ C.map fO)
theorem imp_q4:∀ ds h Q,S_q4 ds h Q→runD 1 b_q4 ds h Q:=by
 rintro ds h Q ⟨C,rfl,c6,q⟩
 delta runD runX b_q4;simp only [List.map_cons,List.map_nil,List.cons_append,List.nil_append,List.length_cons,List.length_nil,List.replicate,Nat.reduceSub,Nat.reduceAdd,Nat.zero_add,Nat.sub_self]
 simp only [cD,VV]
 refine ⟨by rw [List.length_map];omega,?_⟩
 refine compL_map (g:=fD) (fun p acc δ h'=>(∃ x y z,δ=[x,y,z])∧acc=p.zipIdx.map (fun x=>.tup [nD x.1.places,nD x.1.facts,.ref (h.length + x.2)])∧h'=h ++ p.map fO) ⟨⟨_,_,_,rfl⟩,rfl,by simp⟩ (fun _ _ _ _ _=>Src.ok_nil) ?_ ?_
 ·rintro p F r acc δ h' N e ⟨⟨x,y,z,rfl⟩,rfl,rfl⟩ hN
  simp only [fD,VV]
  refine ⟨trivial,hN _ _ _ ⟨⟨_,_,_,rfl⟩,?_,?_⟩⟩
  ·rw [List.zipIdx_append,List.map_append];simp
  ·simp [fO]
 ·rintro acc δ h' ⟨_,rfl,rfl⟩
  exact q
theorem ok_q4{f:Addr}{fd:FuncData}(F:Fun K "_law_copy" "_law_copy" s_q4 f fd)(T:Txt P w K mg):FnOk P w K mg base CX0 1 f fd ["_law_chart_here"] (spD K 1 S_q4) :=
 fn_ok (k:=0) (b:=b_q4) F sc_q4 (fun cdv A outer s H E hr=>by
  refine ss_one ?_
  refine s_ret ?_
  refine se_v ?_
  exact sn_comp rfl (N':= ["_law_places","_law_facts_here","_law_edges"]) (js:=[none,none,none]) ⟨rfl,by decide +kernel,rfl,rfl,rfl⟩ (si_seq (sv 0)) (fun s0 H0 fp=>⟨(sg_tup rfl (sgs_cons (sg_name (i:=0) (show (["_law_places","_law_facts_here","_law_edges"]:List Str).Nodup by decide +kernel) rfl (Or.inl rfl)) (sgs_cons (sg_name (i:=1) (show (["_law_places","_law_facts_here","_law_edges"]:List Str).Nodup by decide +kernel) rfl (Or.inl rfl)) (sgs_cons (sg_name (i:=2) (show (["_law_places","_law_facts_here","_law_edges"]:List Str).Nodup by decide +kernel) rfl (Or.inl rfl)) sgs_nil)))),sf_nil,(se_tup (sa_cons (sv 0) (sa_cons (sv 1) (sa_cons (se_t (sn_list rfl T.b_list (sa_cons (sv 2) sa_nil))) sa_nil))))⟩)) imp_q4
noncomputable def b_q0:DS:=(dRet (dAndV (dChain pLe pLtI (dC (.int 0)) (dVar 2) (dC (.int 6))) (dOp (pEq false) (dOp pBand (dOp pShr (dOp pIx (dVar 0) (dVar 1)) (dVar 2)) (dC (.int 1))) (dC (.int 1)))))
noncomputable def S_q0:DSp:=fun ds h Q=>∃ (t:List Nat) (n m d:Nat) (e:Int),ds=[tD t,nD d,.int e]∧tOk t n m∧m ≤ 6∧d < n∧Q (.bl (br t d e)) h
theorem imp_q0:∀ ds h Q,S_q0 ds h Q→runD 3 b_q0 ds h Q:=by
 rintro ds h Q ⟨t,n,m,d,e,rfl,ht,hm,hd,q⟩
 have hx:=pow64 (ht.get hd).2 hm
 delta runD runX b_q0;simp only [List.map_cons,List.map_nil,List.cons_append,List.nil_append,List.length_cons,List.length_nil,List.replicate,Nat.reduceSub,Nat.reduceAdd,Nat.zero_add,Nat.sub_self]
 by_cases h0:0 ≤ e
 ·by_cases h1:e < 6
  ·simp only [h0,h1,tD_ix h ht hd,VV]
   refine ⟨trivial,?_⟩
   have:=bitE (t.getD d 0) e.toNat
   rw [this]
   unfold br at q
   rw [decide_eq_true h0] at q
   exact q
  ·simp only [h0,h1,VV]
   have e1:br t d e=false:=by
    unfold br
    rw [Nat.testBit_lt_two_pow (Nat.lt_of_lt_of_le hx (Nat.pow_le_pow_right (n:=2) (i:=6) (by decide) (by first | decide | omega))),Bool.and_false]
   rw [e1] at q;exact q
 ·simp only [h0,VV]
  have e1:br t d e=false:=by unfold br;rw [decide_eq_false h0];rfl
  rw [e1] at q;exact q
theorem ok_q0{f:Addr}{fd:FuncData}(F:Fun K "_law_brings" "_law_brings" s_q0 f fd)(T:Txt P w K mg):FnOk P w K mg base CX0 1 f fd ["_law_table_here","_law_one","_law_other"] (spD K 3 S_q0) :=
 fn_ok (k:=0) (b:=b_q0) F sc_q0 (fun cdv A outer s H E hr=>by
  refine ss_one ?_
  refine s_ret ?_
  exact se_and (se_chain ok_le ok_ltI se_int (sv 2) se_int) (se_one (se_cmp (ok_eq hr.units) (se_op ok_band (se_op ok_shr (se_ix ok_ix (sv 0) (sv 1) (fun _ _=>rfl)) (sv 2)) se_int) se_int (nomark _)))) imp_q0
noncomputable def b_q8:DS:=(dSeq (dIfS (dAnd (dTst (dChain pLe pLtI (dC (.int 0)) (dVar 2) (dCB pLen (dCons (dOp pIx (dOp pIx (dVar 0) (dVar 1)) (dC (.int 2))) dNil)))) (dAnd (dTst (dOp (pEq false) (dOp pIx (dOp pIx (dOp pIx (dOp pIx (dVar 0) (dVar 1)) (dC (.int 2))) (dVar 2)) (dC (.int 0))) (dVar 3))) (dTst (dOp (pEq false) (dOp pIx (dOp pIx (dOp pIx (dOp pIx (dVar 0) (dVar 1)) (dC (.int 2))) (dVar 2)) (dC (.int 1))) (dVar 4))))) (dRet (dOp pIx (dOp pIx (dOp pIx (dVar 0) (dVar 1)) (dC (.int 2))) (dVar 2))) dNext)
  (dRet (dC .non)))
noncomputable def edgeOf(C:Chart)(f:Nat)(n:Int)(b:Bool)(p:Nat):Option Edge:=(edgeAt C f n).bind fun E=>if E.isStep=b∧E.p=p then some E else none
noncomputable def sw:Bool→Str | true=> "step" | false=> "call"
noncomputable def S_q8:DSp:=fun ds h Q=>∃ (c:D) (C:Chart) (f p:Nat) (F:Fn) (n:Int) (b:Bool),ds=[c,nD f,.int n,.str (sw b),nD p]∧ChD h c C∧C[f]?=some F∧Q (oD eD (edgeOf C f n b p)) h
theorem imp_q8:∀ ds h Q,S_q8 ds h Q→runD 5 b_q8 ds h Q:=by
 rintro ds h Q ⟨c,C,f,p,F,n,b,rfl,hc,hf,q⟩
 obtain ⟨x,e1,e2⟩:=hc.fn hf
 delta runD runX b_q8;simp only [List.map_cons,List.map_nil,List.cons_append,List.nil_append,List.length_cons,List.length_nil,List.replicate,Nat.reduceSub,Nat.reduceAdd,Nat.zero_add,Nat.sub_self]
 (try dsimp only);refine seq_intro fun N hN=>?_
 by_cases h0:0 ≤ n
 ·by_cases h1:n < F.edges.length
  ·have hl:n.toNat < F.edges.length:=by first | decide | omega
   obtain ⟨E,hE⟩:∃ E,F.edges[n.toNat]?=some E:=⟨_,List.getElem?_eq_getElem hl⟩
   have eE:edgeAt C f n=some E:=by unfold edgeAt;rw [if_pos h0,hf];exact hE
   have ax:atI (F.edges.map eD) n=some (eD E):=by rw [atI_of h0,List.getElem?_map,hE];rfl
   have tk:edgeOf C f n b p=if E.isStep=b∧E.p=p then some E else none:=by unfold edgeOf;rw [eE];rfl
   rw [tk] at q
   have hpp:((E.p:Int) == (p:Int))=decide (E.p=p):=by first | exact beqN _ _ | exact beqP _ _ | exact beqS _ _
   have wk:PyData.strOk E.word=true:=by unfold Edge.word;cases E.k with | step t=>exact sk_step | call g i bk o=>exact sk_call
   have sk:PyData.strOk (sw b)=true:=by cases b with | true=>exact sk_step | false=>exact sk_call
   have we:(E.word == sw b)=decide (E.isStep=b):=by
    obtain ⟨ep,eq,ec,ek⟩:=E
    cases ek <;> cases b
    ·exact sq_step_call
    ·exact sq_step_step
    ·exact sq_call_call
    ·exact sq_call_step
   simp only [e1,len_ls e2,List.length_map,ix_ls e2,h0,h1,ax,eD_0,eD_1,hpp,wk,sk,we,VV]
   by_cases hs:E.isStep=b
   ·by_cases hp:E.p=p
    ·rw [if_pos ⟨hs,hp⟩] at q;simp only [hs,hp,VV];exact q
    ·rw [if_neg (fun z=>hp z.2)] at q;simp only [hs,hp,VV];subst hN;exact q
   ·rw [if_neg (fun z=>hs z.1)] at q;simp only [hs,VV];subst hN;exact q
  ·have eE:edgeOf C f n b p=none:=by
    unfold edgeOf edgeAt
    rw [if_pos h0,hf]
    show (F.edges[n.toNat]?).bind _=none
    rw [List.getElem?_eq_none (by first | decide | omega)];rfl
   rw [eE] at q
   simp only [e1,len_ls e2,List.length_map,h0,h1,VV]
   subst hN;exact q
 ·have eE:edgeOf C f n b p=none:=by unfold edgeOf edgeAt;rw [if_neg h0];rfl
  rw [eE] at q
  simp only [h0,VV]
  have e3:ixD h c (nD f)=some (.tup [nD F.places,nD F.facts,x]):=e1
  subst hN;exact q
theorem takes_of(C:Chart)(f p d:Nat)(w:Mv)(n e:Int):takes C f p d w n e=(edgeOf C f n (w == .step) p).bind fun E=>if br (E.tab w) d e=true then some E else none:=by
 unfold takes edgeOf
 cases edgeAt C f n with
 |none=>rfl
 |some E =>
  show (if (E.isStep == (w == .step))=true∧E.p=p∧br (E.tab w) d e=true then some E else none)=(if E.isStep=(w == .step)∧E.p=p then some E else none).bind _
  by_cases h1:E.isStep=(w == .step)
  ·by_cases h2:E.p=p
   ·rw [if_pos (show E.isStep=(w == .step)∧E.p=p from ⟨h1,h2⟩)]
    show _=if br (E.tab w) d e=true then some E else none
    by_cases h3:br (E.tab w) d e=true
    ·rw [if_pos ⟨by rw [h1];exact beq_self_eq_true _,h2,h3⟩,if_pos h3]
    ·rw [if_neg (fun z=>h3 z.2.2),if_neg h3]
   ·rw [if_neg (fun z=>h2 z.2.1),if_neg (fun z=>h2 z.2)];rfl
  ·rw [if_neg (fun z=>h1 (by simpa using z.1)),if_neg (fun z=>h1 z.1)];rfl
theorem edgeOf_inv{C:Chart}(wf:WF C){f p:Nat}{n:Int}{b:Bool}{E:Edge}(h:edgeOf C f n b p=some E):∃ F,C[f]?=some F∧eOk C F E∧E.isStep=b∧E.p=p:=by
 unfold edgeOf at h
 cases q:edgeAt C f n with
 |none=>rw [q] at h;cases h
 |some E' =>
  rw [q] at h
  have h:(if E'.isStep=b∧E'.p=p then some E' else none)=some E:=h
  split at h
  ·rename_i z
   cases h
   obtain ⟨F,_,hF,hE⟩:=edgeAt_inv q
   exact ⟨F,hF,(wf.fn f F hF).2.2.2.2.2 E (List.mem_of_getElem? hE),z⟩
  ·cases h
theorem ok_q8{f:Addr}{fd:FuncData}(F:Fun K "_law_edge_of" "_law_edge_of" s_q8 f fd)(T:Txt P w K mg):FnOk P w K mg base CX0 1 f fd ["_law_chart_here","_law_f","_law_n","_law_sort","_law_p"] (spD K 5 S_q8) :=
 fn_ok (k:=0) (b:=b_q8) F sc_q8 (fun cdv A outer s H E hr=>by
  refine ss_cons ?_ ?_
  ·refine s_if ?_ ?_ ?_
   ·exact st_w (sw_and (st_chain ok_le ok_ltI se_int (sv 2) (se_callB ok_len rfl T.b_len PySem.boot_len (sa_cons (se_ix ok_ix (se_ix ok_ix (sv 0) (sv 1) (fun _ _=>rfl)) se_int (fun _ _=>rfl)) sa_nil))) (sw_and (st_cmp (ok_eq hr.units) (se_ix ok_ix (se_ix ok_ix (se_ix ok_ix (se_ix ok_ix (sv 0) (sv 1) (fun _ _=>rfl)) se_int (fun _ _=>rfl)) (sv 2) (fun _ _=>rfl)) se_int (fun _ _=>rfl)) (sv 3) (nomark _)) (sw_and1 (st_cmp (ok_eq hr.units) (se_ix ok_ix (se_ix ok_ix (se_ix ok_ix (se_ix ok_ix (sv 0) (sv 1) (fun _ _=>rfl)) se_int (fun _ _=>rfl)) (sv 2) (fun _ _=>rfl)) se_int (fun _ _=>rfl)) (sv 4) (nomark _)))))
   ·refine ss_one ?_
    refine s_ret ?_
    exact se_ix ok_ix (se_ix ok_ix (se_ix ok_ix (sv 0) (sv 1) (fun _ _=>rfl)) se_int (fun _ _=>rfl)) (sv 2) (fun _ _=>rfl)
   exact ss_nil
  refine ss_one ?_
  refine s_ret ?_
  exact se_non) imp_q8
noncomputable def b_q9:DS:=(dRet (dV (dComp [none,some 0] (dIRange (dCons (dC (.int 6)) dNil)) (dName 0) (dTst (dOp (pEq false) (dOp pBand (dOp pShr (dVar 1) (dVar 0)) (dC (.int 1))) (dC (.int 1)))) (dVar 0))))
noncomputable def facts6(m:Nat):List Nat:=(List.range 6).filter fun d=>m.testBit d
noncomputable def S_q9:DSp:=fun ds h Q=>∃ m:Nat,ds=[nD m]∧Q (.lst ((facts6 m).map nD)) h
theorem imp_q9:∀ ds h Q,S_q9 ds h Q→runD 1 b_q9 ds h Q:=by
 rintro ds h Q ⟨m,rfl,q⟩
 delta runD runX b_q9;simp only [List.map_cons,List.map_nil,List.cons_append,List.nil_append,List.length_cons,List.length_nil,List.replicate,Nat.reduceSub,Nat.reduceAdd,Nat.zero_add,Nat.sub_self]
 simp only [VV]
 refine ⟨by first | decide | omega,by rw [rangeD_length];decide,?_⟩
 rw [rangeD_map]
 refine comp1 (fun d=>m.testBit d) nD Src.ok_nil none (fun y hy K k=>?_) (fun y hy _ K k=>?_) ?_
 ·simp only [VV]
  refine ⟨by first | decide | omega,?_⟩
  rw [show ((0:Int) + (y:Nat)).toNat=y by first | decide | omega,bitE]
  exact k
 ·simp only [VV]
  rw [Int.zero_add];exact k
 ·exact q
theorem ok_q9{f:Addr}{fd:FuncData}(F:Fun K "_law_facts" "_law_facts" s_q9 f fd)(T:Txt P w K mg):FnOk P w K mg base CX0 1 f fd ["_law_mask"] (spD K 1 S_q9) :=
 fn_ok (k:=0) (b:=b_q9) F sc_q9 (fun cdv A outer s H E hr=>by
  refine ss_one ?_
  refine s_ret ?_
  refine se_v ?_
  exact sn_comp rfl (N':= ["_law_d","_law_mask"]) (js:=[none,some 0]) ⟨rfl,by decide +kernel,rfl,rfl,rfl⟩ (si_range1 rfl T.b_range (sa_cons se_int sa_nil)) (fun s0 H0 fp=>⟨(sg_name (i:=0) (show (["_law_d","_law_mask"]:List Str).Nodup by decide +kernel) rfl (Or.inl rfl)),(sf_one (st_cmp (ok_eq hr.units) (se_op ok_band (se_op ok_shr (sv 1) (sv 0)) se_int) se_int (nomark _))),(sv 0)⟩)) imp_q9
noncomputable def b_q22:DS:=(dRet (dOp (pIn false) (dVar 2) (dCal S_q29 (dCons (dOp pIx (dVar 0) (dVar 1)) dNil))))
noncomputable def S_q22:DSp:=fun ds h Q=>∃ (t:List Nat) (n m d:Nat) (e:Int),ds=[tD t,nD d,.int e]∧tOk t n m∧m ≤ 6∧d < n∧Q (.bl (br t d e)) h
theorem imp_q22:∀ ds h Q,S_q22 ds h Q→runD 3 b_q22 ds h Q:=by
 rintro ds h Q ⟨t,n,m,d,e,rfl,ht,hm,hd,q⟩
 have hx:=pow64 (ht.get hd).2 hm
 simp only [tD_ix h ht hd,↓b_q22,↓runD,↓dSeq,↓runX,VV]
 refine ⟨_,rfl,Nat.lt_trans hx (by decide),?_⟩
 simp only [↓b_q22,↓runD,↓dSeq,↓runX,VV]
 refine ⟨by rw [flat_ints];rfl,?_⟩
 rw [inF_facts];exact q
theorem ok_q22{f:Addr}{fd:FuncData}(F:Fun K "brings" "brings" s_q22 f fd)(T:Txt P w K mg)(C_q29:Cal P w K mg base 1 "facts_in" ["mask"] (spD K 1 S_q29)):FnOk P w K mg base CX0 2 f fd ["table","d","e"] (spD K 3 S_q22) :=
 fn_ok (k:=1) (b:=b_q22) F sc_q22 (fun cdv A outer s H E hr=>by
  refine ss_one ?_
  refine s_ret ?_
  exact se_cmp ok_in (sv 2) (se_cal C_q29 (hr.mono (by decide)) rfl (sa_cons (se_ix ok_ix (sv 0) (sv 1) (fun _ _=>rfl)) sa_nil)) rfl) imp_q22
noncomputable def b_q34:DS:=(dSeq (dAsg (dOp pIx (dVar 2) (dC (.int 1))) (dName 3))
  (dRet (dIf (dTst (dOp (pIn false) (dVar 3) (dCal S_q35 (dCons (dVar 0) (dCons (dVar 1) dNil))))) (dTup (dCons (dC (.str "at")) (dCons (dC (.int 0)) (dCons (dC (.int 0)) (dCons (dVar 3) (dCons (dC (.int 0)) dNil)))))) (dC .non))))
theorem inF_filter(n st:Nat)(e:Int):inF (.int e) (((List.range n).filter fun d=>st.testBit d).map nD)=(decide (0 ≤ e) && (decide (e < n) && st.testBit e.toNat)):=by
 rw [Bool.eq_iff_iff]
 unfold inF
 rw [List.any_map,List.any_eq_true,Bool.and_eq_true,Bool.and_eq_true,decide_eq_true_iff,decide_eq_true_iff]
 constructor
 ·rintro ⟨x,hx,he⟩
  have he:(x:Int)=e:=by simpa [eqF] using he
  subst he
  rw [List.mem_filter,List.mem_range] at hx
  exact ⟨by first | decide | omega,by first | decide | omega,by simpa using hx.2⟩
 ·rintro ⟨h0,h1,hb⟩
  exact ⟨e.toNat,List.mem_filter.mpr ⟨List.mem_range.mpr (by first | decide | omega),hb⟩,by simp [eqF];omega⟩
noncomputable def S_q34:DSp:=fun ds h Q=>∃ (c:D) (C:Chart) (cs:List Clm) (st:Nat) (d:Int),ds=[c,nD st,rD (.start d)]∧ChD h c C∧WF C∧Q (oD clD (claimOf C st cs (.start d))) h
theorem imp_q34:∀ ds h Q,S_q34 ds h Q→runD 4 b_q34 ds h Q:=by
 rintro ds h Q ⟨c,C,cs,st,d,rfl,hc,wf,q⟩
 obtain ⟨F,hF⟩:∃ E,C[0]?=some E:=⟨_,List.getElem?_eq_getElem wf.one⟩
 simp only [rD,↓b_q34,↓runD,↓dSeq,↓runX,VV]
 refine ⟨c,C,st,F,rfl,hc,hF,(wf.fn 0 F hF).2.2.2.1,?_⟩
 simp only [↓b_q34,↓runD,↓dSeq,↓runX,VV]
 refine ⟨by rw [flat_ints];rfl,?_⟩
 rw [inF_filter]
 have eq:claimOf C st cs (.start d)=if (decide (0 ≤ d) && (decide (d < F.facts) && st.testBit d.toNat))=true then some (.at 0 0 d.toNat 0) else none:=by
  show (if 0 ≤ d then (C[0]?).bind fun F=>if d < F.facts∧st.testBit d.toNat=true then some (Clm.at 0 0 d.toNat 0) else none else none)=_
  rw [hF]
  by_cases h0:0 ≤ d
  ·by_cases h1:d < F.facts <;> simp [h0,h1]
  ·simp [h0]
 rw [eq] at q
 refine iteB (fun z=>?_) (fun z=>?_)
 ·rw [if_pos z] at q
  have h0:0 ≤ d:=by rw [Bool.and_eq_true] at z;exact of_decide_eq_true z.1
  have q:Q (.tup [.str "at",nD 0,nD 0,.int ((d.toNat:Nat):Int),nD 0]) h:=q
  rw [Int.toNat_of_nonneg h0] at q
  exact q
 ·rw [if_neg (by rw [z];exact Bool.false_ne_true)] at q
  exact q
theorem ok_q34{f:Addr}{fd:FuncData}(F:Fun K "start_claim" "start_claim" s_q34 f fd)(T:Txt P w K mg)(C_q35:Cal P w K mg base 1 "start_facts" ["chart","start"] (spD K 2 S_q35)):FnOk P w K mg base CX0 2 f fd ["chart","start","row"] (spD K 3 S_q34) :=
 fn_ok (k:=1) (b:=b_q34) F sc_q34 (fun cdv A outer s H E hr=>by
  refine ss_cons ?_ ?_
  ·refine s_set (i:=3) ?_ ?_ ?_ ?_
   ·exact sc_q34.nd
   ·exact rfl
   ·exact Or.inl rfl
   exact se_ix ok_ix (sv 2) se_int (fun _ _=>rfl)
  refine ss_one ?_
  refine s_ret ?_
  exact se_if (st_cmp ok_in (sv 3) (se_cal C_q35 (hr.mono (by decide)) rfl (sa_cons (sv 0) (sa_cons (sv 1) sa_nil))) rfl) (se_tup (sa_cons se_str (sa_cons se_int (sa_cons se_int (sa_cons (sv 3) (sa_cons se_int sa_nil)))))) se_non) imp_q34
noncomputable def b_q20:DS:=(dSeq (dAsg (dCal S_q23 (dCons (dVar 0) (dCons (dOp pIx (dVar 1) (dC (.int 1))) (dCons (dC (.str "at")) dNil)))) (dName 2))
  (dSeq (dAsg (dCal S_q23 (dCons (dVar 0) (dCons (dOp pIx (dVar 1) (dC (.int 2))) (dCons (dC (.str "within")) dNil)))) (dName 3))
  (dSeq (dIfS (dOr (dTst (dOp (pIs false) (dVar 2) (dC .non))) (dTst (dOp (pIs false) (dVar 3) (dC .non)))) (dRet (dC .non)) dNext)
  (dSeq (dAsg (dOp pIx (dVar 2) (dC (.int 1))) (dName 4))
  (dSeq (dIfS (dOr (dTst (dOp (pEq true) (dOp pIx (dVar 2) (dC (.int 2))) (dC (.int 0)))) (dOr (dTst (dOp (pEq true) (dOp pIx (dVar 3) (dC (.int 1))) (dVar 4))) (dTst (dOp (pEq true) (dOp pIx (dVar 3) (dC (.int 2))) (dOp pIx (dVar 2) (dC (.int 3))))))) (dRet (dC .non)) dNext)
  (dRet (dTup (dCons (dC (.str "at")) (dCons (dVar 4) (dCons (dOp pIx (dVar 3) (dC (.int 3))) (dCons (dOp pIx (dVar 3) (dC (.int 4))) (dCons (dOp pPlus (dOp pIx (dVar 2) (dC (.int 4))) (dOp pIx (dVar 3) (dC (.int 5)))) dNil))))))))))))
noncomputable def S_q20:DSp:=fun ds h Q=>∃ (a:D) (C:Chart) (cs:List Clm) (st:Nat) (k j:Int),ds=[a,rD (.along k j)]∧lsOf h a=some (cs.map clD)∧Q (oD clD (claimOf C st cs (.along k j))) h
theorem imp_q20:∀ ds h Q,S_q20 ds h Q→runD 5 b_q20 ds h Q:=by
 rintro ds h Q ⟨a,C,cs,st,k,j,rfl,ha,q⟩
 delta runD runX b_q20;simp only [List.map_cons,List.map_nil,List.cons_append,List.nil_append,List.length_cons,List.length_nil,List.replicate,Nat.reduceSub,Nat.reduceAdd,Nat.zero_add,Nat.sub_self]
 (try dsimp only);refine seq_intro fun N hN=>?_
 simp only [rD,VV]
 refine ⟨a,cs,k,false,rfl,ha,?_⟩
 subst hN
 (try dsimp only);refine seq_intro fun N hN=>?_
 simp only [VV]
 refine ⟨a,cs,j,true,rfl,ha,?_⟩
 subst hN
 (try dsimp only);refine seq_intro fun N hN=>?_
 cases hb:aheadW cs k false with
 |none =>
  have eq:claimOf C st cs (.along k j)=none:=by
   have hn:=aheadW_Fn hb
   show (match ahead cs k,ahead cs j with | some (.at f p a c),some (.within g b q d c')=>_ | _,_=>none)=none
   cases q2:ahead cs k with
   |none=>rfl
   |some x =>
    cases x with
    |within f a p d c=>rfl
    |«at» f p d c=>exact absurd q2 (hn f p d c)
  rw [eq] at q
  simp only [oD,VV]
  exact q
 |some b =>
  obtain ⟨f,p,d,x,rfl,hk⟩:=aheadW_F hb
  cases hb2:aheadW cs j true with
  |none =>
   have eq:claimOf C st cs (.along k j)=none:=by
    have hn:=aheadW_Tn hb2
    show (match ahead cs k,ahead cs j with | some (.at f p a c),some (.within g b q d c')=>_ | _,_=>none)=none
    rw [hk]
    cases q2:ahead cs j with
    |none=>rfl
    |some x =>
     cases x with
     |within f a p d c=>exact absurd q2 (hn f a p d c)
     |«at» f p d c=>rfl
   rw [eq] at q
   simp only [oD,clD,VV]
   exact q
  |some b2 =>
   obtain ⟨g,b,q',d',x',rfl,hk2⟩:=aheadW_T hb2
   have eq:claimOf C st cs (.along k j)=if p=0∧g=f∧b=d then some (.at f q' d' (x + x')) else none:=by
    show (match ahead cs k,ahead cs j with | some (.at f p a c),some (.within g b q d c')=>_ | _,_=>none)=_
    rw [hk,hk2]
   rw [eq] at q
   have e1:((p:Int) == 0)=decide (p=0):=by rw [Bool.eq_iff_iff];simp
   have e2:((g:Int) == (f:Int))=decide (g=f):=by first | exact beqN _ _ | exact beqP _ _ | exact beqS _ _
   have e3:((b:Int) == (d:Int))=decide (b=d):=by first | exact beqN _ _ | exact beqP _ _ | exact beqS _ _
   simp only [oD,clD,VV]
   subst hN
   (try dsimp only);refine seq_intro fun N hN=>?_
   simp only [VV]
   subst hN
   (try dsimp only);refine seq_intro fun N hN=>?_
   simp only [e1,e2,e3,VV]
   by_cases h1:p=0
   ·by_cases h2:g=f
    ·by_cases h3:b=d
     ·rw [if_pos ⟨h1,h2,h3⟩] at q
      simp only [h1,h2,h3,VV]
      subst hN
      simp only [VV]
      have q:Q (.tup [.str "at",nD f,nD q',nD d',.int ((x + x':Nat):Int)]) h:=q
      rw [Int.natCast_add] at q
      exact q
     ·rw [if_neg (fun z=>h3 z.2.2)] at q;simp only [h1,h2,h3,VV];exact q
    ·rw [if_neg (fun z=>h2 z.2.1)] at q;simp only [h1,h2,VV];exact q
   ·rw [if_neg (fun z=>h1 z.1)] at q;simp only [h1,VV];exact q
theorem ok_q20{f:Addr}{fd:FuncData}(F:Fun K "along_claim" "along_claim" s_q20 f fd)(T:Txt P w K mg)(C_q23:Cal P w K mg base 1 "claim_ahead" ["ahead","k","sort"] (spD K 3 S_q23)):FnOk P w K mg base CX0 2 f fd ["ahead","row"] (spD K 2 S_q20) :=
 fn_ok (k:=1) (b:=b_q20) F sc_q20 (fun cdv A outer s H E hr=>by
  refine ss_cons ?_ ?_
  ·refine s_set (i:=2) ?_ ?_ ?_ ?_
   ·exact sc_q20.nd
   ·exact rfl
   ·exact Or.inl rfl
   exact se_cal C_q23 (hr.mono (by decide)) rfl (sa_cons (sv 0) (sa_cons (se_ix ok_ix (sv 1) se_int (fun _ _=>rfl)) (sa_cons se_str sa_nil)))
  refine ss_cons ?_ ?_
  ·refine s_set (i:=3) ?_ ?_ ?_ ?_
   ·exact sc_q20.nd
   ·exact rfl
   ·exact Or.inl rfl
   exact se_cal C_q23 (hr.mono (by decide)) rfl (sa_cons (sv 0) (sa_cons (se_ix ok_ix (sv 1) se_int (fun _ _=>rfl)) (sa_cons se_str sa_nil)))
  refine ss_cons ?_ ?_
  ·refine s_if ?_ ?_ ?_
   ·exact st_w (sw_or (st_cmp ok_is (sv 2) se_non (nomark _)) (sw_or1 (st_cmp ok_is (sv 3) se_non (nomark _))))
   ·refine ss_one ?_
    refine s_ret ?_
    exact se_non
   exact ss_nil
  refine ss_cons ?_ ?_
  ·refine s_set (i:=4) ?_ ?_ ?_ ?_
   ·exact sc_q20.nd
   ·exact rfl
   ·exact Or.inl rfl
   exact se_ix ok_ix (sv 2) se_int (fun _ _=>rfl)
  refine ss_cons ?_ ?_
  ·refine s_if ?_ ?_ ?_
   ·exact st_w (sw_or (st_cmp (ok_ne hr.units) (se_ix ok_ix (sv 2) se_int (fun _ _=>rfl)) se_int (nomark _)) (sw_or (st_cmp (ok_ne hr.units) (se_ix ok_ix (sv 3) se_int (fun _ _=>rfl)) (sv 4) (nomark _)) (sw_or1 (st_cmp (ok_ne hr.units) (se_ix ok_ix (sv 3) se_int (fun _ _=>rfl)) (se_ix ok_ix (sv 2) se_int (fun _ _=>rfl)) (nomark _)))))
   ·refine ss_one ?_
    refine s_ret ?_
    exact se_non
   exact ss_nil
  refine ss_one ?_
  refine s_ret ?_
  refine se_tup (n:=5) ?_
  refine sa_cons ?_ ?_
  ·exact se_str
  refine sa_cons ?_ ?_
  ·exact sv 4
  refine sa_cons ?_ ?_
  ·exact se_ix ok_ix (sv 3) se_int (fun _ _=>rfl)
  refine sa_cons ?_ ?_
  ·exact se_ix ok_ix (sv 3) se_int (fun _ _=>rfl)
  refine sa_cons ?_ ?_
  ·exact se_op ok_plus (se_ix ok_ix (sv 2) se_int (fun _ _=>rfl)) (se_ix ok_ix (sv 3) se_int (fun _ _=>rfl))
  exact sa_nil) imp_q20
noncomputable def b_q5:DS:=(dSeq (dIfS (dTst (dOp pGt (dCal S_q11 (dCons (dVar 0) (dCons (dC (.int 4)) dNil))) (dC (.int 0)))) (dRet (dOp pPlus (dC (.int 1)) (dCal S_q11 (dCons (dVar 0) (dCons (dC (.int 9)) dNil))))) dNext)
  (dRet (dOp pPlus (dC (.int 1)) (dOp pMod (dOp pPlus (dOp pMulI (dCal S_q11 (dCons (dVar 0) (dCons (dOp pPow (dC (.int 10)) (dC (.int 8))) dNil))) (dOp pPow (dC (.int 10)) (dC (.int 10)))) (dOp pMulI (dCal S_q11 (dCons (dVar 0) (dCons (dOp pPow (dC (.int 10)) (dC (.int 8))) dNil))) (dC (.int 239)))) (dOp pPow (dC (.int 10)) (dC (.int 18)))))))
noncomputable def S_q5:DSp:=fun ds h Q=>∃ (i:Nat) (s:Int),ds=[.ref i]∧h[i]?=some (.lst [.int s])∧∀ (s':Int) (c:Nat),1 ≤ c→c ≤ 10 ^ 18→Q (nD c) (h.set i (.lst [.int s']))
theorem imp_q5:∀ ds h Q,S_q5 ds h Q→runD 1 b_q5 ds h Q:=by
 rintro ds h Q ⟨i,s,rfl,hi,q⟩
 delta runD runX b_q5;simp only [List.map_cons,List.map_nil,List.cons_append,List.nil_append,List.length_cons,List.length_nil,List.replicate,Nat.reduceSub,Nat.reduceAdd,Nat.zero_add,Nat.sub_self]
 (try dsimp only);refine seq_intro fun N hN=>?_
 simp only [VV]
 refine ⟨i,s,4,rfl,hi,by first | decide | omega,fun s1 r1 hr1=>?_⟩
 simp only [VV]
 refine iteB (fun z=>?_) (fun z=>?_)
 ·refine ⟨i,s1,9,rfl,get_set hi,by first | decide | omega,fun s2 r2 hr2=>?_⟩
  simp only [VV]
  rw [set_set,show (1:Int) + (r2:Int)=((1 + r2:Nat):Int) by first | decide | omega]
  exact q _ _ (by first | decide | omega) (by first | decide | omega)
 ·subst hN
  simp only [VV]
  refine ⟨⟨by decide,by decide,by decide⟩,i,s1,_,rfl,get_set hi,by decide,fun s2 r2 hr2=>?_⟩
  simp only [VV]
  refine ⟨⟨by decide,by decide,by decide⟩,mulS' (by decide),⟨by decide,by decide,by decide⟩,i,s2,_,rfl,by rw [set_set];exact get_set hi,by decide,fun s3 r3 hr3=>?_⟩
  simp only [VV]
  refine ⟨mulS' (by decide),⟨by decide,by decide,by decide⟩,by decide,?_⟩
  rw [set_set,set_set]
  have e10:(10:Int) ^ (18:Int).toNat=1000000000000000000:=by decide
  rw [e10]
  generalize (r2:Int) * 10 ^ (10:Int).toNat + (r3:Int) * 239=y
  have h0:=Int.emod_nonneg y (show (1000000000000000000:Int) ≠ 0 by decide)
  have h1:=Int.emod_lt_of_pos y (show (0:Int) < 1000000000000000000 by decide)
  rw [show (1:Int) + y % 1000000000000000000=((1 + (y % 1000000000000000000).toNat:Nat):Int) by first | decide | omega]
  exact q _ _ (by first | decide | omega) (by first | decide | omega)
theorem ok_q5{f:Addr}{fd:FuncData}(F:Fun K "_law_cost" "_law_cost" s_q5 f fd)(T:Txt P w K mg)(C_q11:Cal P w K mg base 1 "_law_next" ["_law_state","_law_many"] (spD K 2 S_q11)):FnOk P w K mg base CX0 2 f fd ["_law_state"] (spD K 1 S_q5) :=
 fn_ok (k:=1) (b:=b_q5) F sc_q5 (fun cdv A outer s H E hr=>by
  refine ss_cons ?_ ?_
  ·refine s_if ?_ ?_ ?_
   ·exact st_cmp ok_gt (se_cal C_q11 (hr.mono (by decide)) rfl (sa_cons (sv 0) (sa_cons se_int sa_nil))) se_int (nomark _)
   ·refine ss_one ?_
    refine s_ret ?_
    exact se_op ok_plus se_int (se_cal C_q11 (hr.mono (by decide)) rfl (sa_cons (sv 0) (sa_cons se_int sa_nil)))
   exact ss_nil
  refine ss_one ?_
  refine s_ret ?_
  exact se_op ok_plus se_int (se_op ok_mod (se_op ok_plus (se_op ok_timesI (se_cal C_q11 (hr.mono (by decide)) rfl (sa_cons (sv 0) (sa_cons (se_op ok_pow se_int se_int) sa_nil))) (se_op ok_pow se_int se_int)) (se_op ok_timesI (se_cal C_q11 (hr.mono (by decide)) rfl (sa_cons (sv 0) (sa_cons (se_op ok_pow se_int se_int) sa_nil))) se_int)) (se_op ok_pow se_int se_int))) imp_q5
noncomputable def b_q18:DS:=(dSeq (dAsg (dTk dNil) (dName 3))
  (dSeq (dFor (dIRange (dCons (dVar 1) dNil)) (dName 4) (dSeq (dAsg (dOp pBor (dOp pBand (dCal S_q11 (dCons (dVar 0) (dCons (dOp pShl (dC (.int 1)) (dVar 2)) dNil))) (dCal S_q11 (dCons (dVar 0) (dCons (dOp pShl (dC (.int 1)) (dVar 2)) dNil)))) (dOp pShl (dC (.int 1)) (dOp pMod (dVar 4) (dVar 2)))) (dName 5))
  (dDrop (dAppend (dVar 3) (dCons (dOp pMulI (dVar 5) (dCB pInt (dCons (dOrV (dOp (pEq false) (dVar 4) (dC (.int 0))) (dOp pGt (dCal S_q11 (dCons (dVar 0) (dCons (dC (.int 5)) dNil))) (dC (.int 0)))) dNil))) dNil)))))
  (dRet (dCB pTuple (dCons (dVar 3) dNil)))))
noncomputable def S_q18:DSp:=fun ds h Q=>∃ (i:Nat) (s:Int) (n m:Nat),ds=[.ref i,nD n,nD m]∧h[i]?=some (.lst [.int s])∧n ≤ 6∧1 ≤ m∧m ≤ 6∧∀ (s':Int) (t:List Nat),tOk t n m→Q (tD t) (h.set i (.lst [.int s']))
theorem imp_q18:∀ ds h Q,S_q18 ds h Q→runD 6 b_q18 ds h (Dr h Q):=by
 rintro ds h Q ⟨i,s,n,m,rfl,hi,hn,hm1,hm6,q⟩
 delta runD runX b_q18;simp only [List.map_cons,List.map_nil,List.cons_append,List.nil_append,List.length_cons,List.length_nil,List.replicate,Nat.reduceSub,Nat.reduceAdd,Nat.zero_add,Nat.sub_self]
 (try dsimp only);refine seq_intro fun N hN=>?_
 simp only [VV]
 subst hN
 (try dsimp only);refine seq_intro fun N hN=>?_
 simp only [VV]
 refine ⟨by first | decide | omega,?_⟩
 rw [rangeD_map,Int.toNat_natCast]
 have h64:2 ^ m ≤ 64:=Nat.pow_le_pow_right (n:=2) (by decide) hm6
 have hp:(1:Int) * 2 ^ (m:Int).toNat=((2 ^ m:Nat):Int):=shl1 m
 have hpos:0 < 2 ^ m:=Nat.two_pow_pos m
 have eh:h ++ [O.lst []]=(h.set i (.lst [.int s])) ++ [.lst []]:=by rw [set_id hi]
 refine forL_map (fun p δ h'=>∃ (t:List Nat) (s':Int) (x1 x2:Option D),δ=[some (.ref i),some (nD n),some (nD m),some (.ref h.length),x1,x2]∧h'=(h.set i (.lst [.int s'])) ++ [.lst (t.map nD)]∧t.length=p.length∧∀ x ∈ t,x < 2 ^ m) ⟨[],s,none,none,rfl,eh,rfl,fun x hx=>nomatch hx⟩ (fun _ _ _ _=>Src.ok_nil) ?_ ?_
 ·rintro p d r δ h' N1 e ⟨t,s',x1,x2,rfl,rfl,hl,ht⟩ hN1
  obtain ⟨hdp,hd⟩:=range_split e
  simp only [VV]
  (try dsimp only);refine seq_intro fun N hN=>?_
  simp only [VV]
  refine ⟨⟨by first | decide | omega,by first | decide | omega,by decide⟩,i,s',_,rfl,st_get hi,by rw [hp];omega,fun s1 r1 hr1=>?_⟩
  simp only [VV]
  rw [st_set hi]
  refine ⟨⟨by first | decide | omega,by first | decide | omega,by decide⟩,i,s1,_,rfl,st_get hi,by rw [hp];omega,fun s2 r2 hr2=>?_⟩
  simp only [VV]
  rw [st_set hi]
  have em:(0 + (d:Int)) % (m:Int)=((d % m:Nat):Int):=by rw [Int.zero_add];exact (Int.natCast_emod d m).symm
  have hdm:d % m < m:=Nat.mod_lt _ (by first | decide | omega)
  rw [em]
  refine ⟨by first | decide | omega,⟨by first | decide | omega,by first | decide | omega,by decide⟩,?_⟩
  rw [shl1,band_nat,bor_nat]
  have hk:(r1 &&& r2) ||| 2 ^ (d % m) < 2 ^ m:=Nat.or_lt_two_pow (Nat.and_lt_two_pow _ (by rw [hp] at hr2;omega)) (Nat.pow_lt_pow_right (by decide) hdm)
  generalize (r1 &&& r2) ||| 2 ^ (d % m)=mk at hk
  have fin:∀ (s3:Int) (b:Nat),b ≤ 1→N1 [some (.ref i),some (nD n),some (nD m),some (.ref h.length),some (.int (0 + (d:Int))),some (nD mk)] ((h.set i (.lst [.int s3])) ++ [.lst (t.map nD ++ [.int ((mk:Int) * (b:Int))])]):=fun s3 b hb=>by
   refine hN1 _ _ ⟨t ++ [mk * b],s3,_,_,rfl,by simp,by simp [hl],fun x hx=>?_⟩
   rcases List.mem_append.mp hx with z | z
   ·exact ht x z
   ·rw [List.mem_singleton.mp z]
    have:b=0∨b=1:=by first | decide | omega
    rcases this with rfl | rfl <;> omega
  have hlen:t.length < 16777216:=by first | decide | omega
  subst hN
  have ng:(List.set h i (O.lst [D.int s2]) ++ [O.lst (t.map nD)])[List.length h]?=some (.lst (t.map nD)):=nw_get
  simp only [ng,VV]
  refine iteB (fun z=>?_) (fun z=>?_)
  ·simp only [nw_get,nw_set,List.length_map,VV]
   refine ⟨mulS' (by decide),hlen,?_⟩
   exact fin s2 1 (by first | decide | omega)
  ·refine ⟨i,s2,5,rfl,st_get hi,by first | decide | omega,fun s3 r3 hr3=>?_⟩
   rw [st_set hi]
   simp only [nw_get,nw_set,List.length_map,VV]
   by_cases z3:(0:Int) < (r3:Int)
   ·simp only [z3,VV]
    exact ⟨mulS' (by decide),hlen,fin s3 1 (by first | decide | omega)⟩
   ·simp only [z3,VV]
    exact ⟨mulS' (by decide),hlen,fin s3 0 (by first | decide | omega)⟩
 ·rintro δ h' ⟨t,s',x1,x2,rfl,rfl,hl,ht⟩
  subst hN
  have ng:lsOf (List.set h i (O.lst [D.int s']) ++ [O.lst (t.map nD)]) (.ref h.length)=some (t.map nD):=lsOf_ref nw_get
  simp only [seq_ls ng,VV]
  exact Dr.state hi rfl (nrD_tD t) (q s' t ⟨by rw [hl];simp,ht⟩)
theorem ok_q18{f:Addr}{fd:FuncData}(F:Fun K "_law_table" "_law_table" s_q18 f fd)(T:Txt P w K mg)(C_q11:Cal P w K mg base 1 "_law_next" ["_law_state","_law_many"] (spD K 2 S_q11)):FnOk P w K mg base CX0 2 f fd ["_law_state","_law_many","_law_facts_here"] (spD K 3 S_q18) :=
 fn_okD (k:=1) (b:=b_q18) F sc_q18 (fun cdv A outer s H E hr=>by
  refine ss_cons ?_ ?_
  ·refine s_set (i:=3) ?_ ?_ ?_ ?_
   ·exact sc_q18.nd
   ·exact rfl
   ·exact Or.inl rfl
   exact se_t (sn_lst sa_nil)
  refine ss_cons ?_ ?_
  ·refine s_for ?_ ?_ ?_ ?_ ?_
   ·exact PassesOwn.never
   ·exact rfl
   ·exact si_range1 rfl T.b_range (sa_cons (sv 1) sa_nil)
   ·exact sg_name (i:=4) sc_q18.nd rfl (Or.inl rfl)
   refine ss_cons ?_ ?_
   ·refine s_set (i:=5) ?_ ?_ ?_ ?_
    ·exact sc_q18.nd
    ·exact rfl
    ·exact Or.inl rfl
    exact se_op ok_bor (se_op ok_band (se_cal C_q11 (hr.mono (by decide)) rfl (sa_cons (sv 0) (sa_cons (se_op ok_shl se_int (sv 2)) sa_nil))) (se_cal C_q11 (hr.mono (by decide)) rfl (sa_cons (sv 0) (sa_cons (se_op ok_shl se_int (sv 2)) sa_nil)))) (se_op ok_shl se_int (se_op ok_mod (sv 4) (sv 2)))
   refine ss_one ?_
   refine s_expr ?_
   exact se_append (sv 3) (sa_cons (se_op ok_timesI (sv 5) (se_callTy ok_int rfl T.b_int PyProof.Rows.boot_int (sa_cons (se_or (se_cmp (ok_eq hr.units) (sv 4) se_int (nomark _)) (se_one (se_cmp ok_gt (se_cal C_q11 (hr.mono (by decide)) rfl (sa_cons (sv 0) (sa_cons se_int sa_nil))) se_int (nomark _)))) sa_nil))) sa_nil)
  refine ss_one ?_
  refine s_ret ?_
  exact se_callTy ok_tuple rfl T.b_tuple PyProof.Rows.boot_tuple (sa_cons (sv 3) sa_nil)) imp_q18
noncomputable def b_q17:DS:=(dRet (dOp pPlus (dC (.int 1)) (dOp pMod (dCal S_q1 (dCons (dVar 0) (dCons (dC (.int 5)) dNil))) (dOp pSub (dOp pShl (dC (.int 1)) (dOp pIx (dOp pIx (dVar 1) (dC (.int 0))) (dC (.int 1)))) (dC (.int 1))))))
noncomputable def S_q17:DSp:=fun ds h Q=>∃ (ns:List Int) (c:D) (C:Chart) (F:Fn),ds=[.scr (ns.map .int),c]∧ns.length ≤ 63∧(∀ x ∈ ns,Builtin.Int.intBits x ≤ 1048576)∧ChD h c C∧C[0]?=some F∧1 ≤ F.facts∧F.facts ≤ 6∧∀ st:Nat,1 ≤ st→st < 2 ^ F.facts→Q (nD st) h
theorem imp_q17:∀ ds h Q,S_q17 ds h Q→runD 2 b_q17 ds h Q:=by
 rintro ds h Q ⟨ns,c,C,F,rfl,hl,hb,hc,hF,f1,f6,q⟩
 obtain ⟨x,e1,e2⟩:=hc.fn hF
 have e1:ixD h c (.int 0)=some (.tup [nD F.places,nD F.facts,x]):=e1
 delta runD runX b_q17;simp only [List.map_cons,List.map_nil,List.cons_append,List.nil_append,List.length_cons,List.length_nil,List.replicate,Nat.reduceSub,Nat.reduceAdd,Nat.zero_add,Nat.sub_self]
 simp only [VV]
 refine ⟨ns,5,rfl,hl,hb,by first | decide | omega,fun r hr=>?_⟩
 simp only [e1,VV]
 have hp:2 ≤ 2 ^ F.facts:=by
  have:=Nat.pow_le_pow_right (n:=2) (by decide) f1
  simpa using this
 have e3:((2 ^ F.facts:Nat):Int) - 1=((2 ^ F.facts - 1:Nat):Int):=by first | decide | omega
 rw [shl1,e3]
 refine ⟨⟨by first | decide | omega,by first | decide | omega,by decide⟩,by first | decide | omega,?_⟩
 have h0:=Int.emod_nonneg r (show ((2 ^ F.facts - 1:Nat):Int) ≠ 0 by first | decide | omega)
 have h1:=Int.emod_lt_of_pos r (show (0:Int) < ((2 ^ F.facts - 1:Nat):Int) by first | decide | omega)
 rw [show (1:Int) + r % ((2 ^ F.facts - 1:Nat):Int)=((1 + (r % ((2 ^ F.facts - 1:Nat):Int)).toNat:Nat):Int) by first | decide | omega]
 exact q _ (by first | decide | omega) (by first | decide | omega)
theorem ok_q17{f:Addr}{fd:FuncData}(F:Fun K "_law_start" "_law_start" s_q17 f fd)(T:Txt P w K mg)(C_q1:Cal P w K mg base 1 "_law_cell" ["_law_script","_law_k"] (spD K 2 S_q1)):FnOk P w K mg base CX0 2 f fd ["_law_script","_law_chart_here"] (spD K 2 S_q17) :=
 fn_ok (k:=1) (b:=b_q17) F sc_q17 (fun cdv A outer s H E hr=>by
  refine ss_one ?_
  refine s_ret ?_
  exact se_op ok_plus se_int (se_op ok_mod (se_cal C_q1 (hr.mono (by decide)) rfl (sa_cons (sv 0) (sa_cons se_int sa_nil))) (se_op ok_sub (se_op ok_shl se_int (se_ix ok_ix (se_ix ok_ix (sv 1) se_int (fun _ _=>rfl)) se_int (fun _ _=>rfl))) se_int))) imp_q17
noncomputable def b_q15:DS:=(dSeq (dAsg (dCal S_q8 (dCons (dVar 0) (dCons (dOp pIx (dVar 1) (dC (.int 1))) (dCons (dVar 2) (dCons (dC (.str "call")) (dCons (dOp pIx (dVar 1) (dC (.int 3))) dNil)))))) (dName 5))
  (dSeq (dIfS (dOr (dTst (dOp (pIs false) (dVar 5) (dC .non))) (dOr (dTst (dOp (pEq true) (dOp pIx (dVar 3) (dC (.int 1))) (dOp pIx (dVar 5) (dC (.int 4))))) (dTst (dOp (pEq true) (dOp pIx (dVar 3) (dC (.int 3))) (dOp pSub (dOp pIx (dOp pIx (dVar 0) (dOp pIx (dVar 5) (dC (.int 4)))) (dC (.int 0))) (dC (.int 1))))))) (dRet (dC .non)) dNext)
  (dSeq (dIfS (dOr (dNot (dTr (dCal S_q0 (dCons (dOp pIx (dVar 5) (dC (.int 5))) (dCons (dOp pIx (dVar 1) (dC (.int 4))) (dCons (dOp pIx (dVar 3) (dC (.int 2))) dNil)))))) (dNot (dTr (dCal S_q0 (dCons (dOp pIx (dVar 5) (dC (.int 6))) (dCons (dOp pIx (dVar 3) (dC (.int 4))) (dCons (dVar 4) dNil))))))) (dRet (dC .non)) dNext)
  (dRet (dTup (dCons (dC (.str "within")) (dCons (dOp pIx (dVar 1) (dC (.int 1))) (dCons (dOp pIx (dVar 1) (dC (.int 2))) (dCons (dOp pIx (dVar 5) (dC (.int 2))) (dCons (dVar 4) (dCons (dOp pPlus (dOp pPlus (dOp pIx (dVar 1) (dC (.int 5))) (dOp pIx (dVar 5) (dC (.int 3)))) (dOp pIx (dVar 3) (dC (.int 5)))) dNil)))))))))))
noncomputable def shortC(C:Chart)(f a p d c g b x y c':Nat)(n e:Int):Option Clm:=(takes C f p d .inn n b).bind fun E=>match E.k with
 |.call g' _ bk _=>(C[g']?).bind fun G=>if g'=g∧x + 1=G.places∧br bk y e=true then some (.within f a E.q e.toNat (c + E.cost + c')) else none
 |_=>none
noncomputable def S_q15:DSp:=fun ds h Q=>∃ (c:D) (C:Chart) (f a p d x g b px y x':Nat) (n e:Int),ds=[c,clD (.within f a p d x),.int n,clD (.within g b px y x'),.int e]∧ChD h c C∧WF C∧clOk C (.within f a p d x)∧clOk C (.within g b px y x')∧Q (oD clD (shortC C f a p d x g b px y x' n e)) h
theorem imp_q15:∀ ds h Q,S_q15 ds h Q→runD 6 b_q15 ds h Q:=by
 rintro ds h Q ⟨c,C,f,a,p,d,x,g,b,px,y,x',n,e,rfl,hc,wf,⟨F,hF,o1,o2,o3⟩,⟨G,hG,p1,p2,p3⟩,q⟩
 unfold shortC at q
 rw [takes_of] at q
 delta runD runX b_q15;simp only [List.map_cons,List.map_nil,List.cons_append,List.nil_append,List.length_cons,List.length_nil,List.replicate,Nat.reduceSub,Nat.reduceAdd,Nat.zero_add,Nat.sub_self]
 (try dsimp only);refine seq_intro fun N hN=>?_
 simp only [clD,VV]
 refine ⟨c,C,f,p,F,n,false,rfl,hc,hF,?_⟩
 subst hN
 have ew:(Mv.inn == Mv.step)=false:=rfl
 rw [ew] at q
 cases hE:edgeOf C f n false p with
 |none =>
  rw [hE] at q
  (try dsimp only);refine seq_intro fun N hN=>?_
  simp only [oD,VV]
  exact q
 |some E =>
  obtain ⟨F',hF',⟨o1',o2',o3',o4',o5'⟩,hs,hp⟩:=edgeOf_inv wf hE
  rw [hF] at hF';cases hF'
  rw [hE] at q
  obtain ⟨ep,eq,ec,ek⟩:=E
  cases ek with
  |step t=>cases hs
  |call g' i bk o =>
   obtain ⟨G',hG',t1,t2,t3⟩:=o5'
   obtain ⟨xx,e1,e2⟩:=hc.fn hG'
   have q:Q (oD clD ((if br i d b=true then some (Edge.mk ep eq ec (.call g' i bk o)) else none).bind fun E=>match E.k with
    |.call g' _ bk _=>(C[g']?).bind fun G=>if g'=g∧px + 1=G.places∧br bk y e=true then some (.within f a E.q e.toNat (x + E.cost + x')) else none
    |_=>none)) h:=q
   have e3:((g:Int) == (g':Int))=decide (g'=g):=by first | exact beqN _ _ | exact beqP _ _ | exact beqS _ _
   have e4:((px:Int) == (G'.places:Int) - 1)=decide (px + 1=G'.places):=by first | exact beqN _ _ | exact beqP _ _ | exact beqS _ _
   have non:(br i d b=true→g'=g→px + 1=G'.places→br bk y e=true→False)→Q .non h:=fun z=>by
    by_cases b1:br i d b=true
    ·rw [if_pos b1] at q
     have q:Q (oD clD ((C[g']?).bind fun G=>if g'=g∧px + 1=G.places∧br bk y e=true then some (.within f a eq e.toNat (x + ec + x')) else none)) h:=q
     rw [hG'] at q
     have q:Q (oD clD (if g'=g∧px + 1=G'.places∧br bk y e=true then some (.within f a eq e.toNat (x + ec + x')) else none)) h:=q
     rw [if_neg (fun w=>z b1 w.1 w.2.1 w.2.2)] at q
     exact q
    ·rw [if_neg b1] at q;exact q
   (try dsimp only);refine seq_intro fun N hN=>?_
   simp only [oD,eD,e3,VV]
   by_cases h1:g'=g
   ·have hG'':G'=G:=by rw [h1] at hG';rw [hG] at hG';exact (Option.some.inj hG').symm
    simp only [h1,e1,e4,VV]
    rw [h1] at e1
    rw [show ixD h c (nD g)=_ from e1]
    simp only [e4,VV]
    by_cases h2:px + 1=G'.places
    ·simp only [h2,VV]
     subst hN
     (try dsimp only);refine seq_intro fun N hN=>?_
     simp only [VV]
     refine ⟨i,_,_,d,(b:Int),rfl,t1,(wf.fn g' G' hG').2.2.2.1,o3,?_⟩
     simp only [VV]
     by_cases b1:br i d b=true
     ·simp only [b1,VV]
      refine ⟨bk,_,_,y,e,rfl,t2,(wf.fn f F hF).2.2.2.1,by rw [hG''];exact p3,?_⟩
      simp only [VV]
      by_cases b2:br bk y e=true
      ·simp only [b2,VV]
       subst hN
       simp only [VV]
       rw [if_pos b1] at q
       have q:Q (oD clD ((C[g']?).bind fun G=>if g'=g∧px + 1=G.places∧br bk y e=true then some (.within f a eq e.toNat (x + ec + x')) else none)) h:=q
       rw [hG'] at q
       have q:Q (oD clD (if g'=g∧px + 1=G'.places∧br bk y e=true then some (.within f a eq e.toNat (x + ec + x')) else none)) h:=q
       rw [if_pos ⟨h1,h2,b2⟩] at q
       have he:0 ≤ e:=by unfold br at b2;rw [Bool.and_eq_true] at b2;exact of_decide_eq_true b2.1
       have q:Q (.tup [.str "within",nD f,nD a,nD eq,.int ((e.toNat:Nat):Int),.int ((x + ec + x':Nat):Int)]) h:=q
       rw [Int.toNat_of_nonneg he,Int.natCast_add,Int.natCast_add] at q
       exact q
      ·simp only [b2,VV]
       exact non fun _ _ _ z=>b2 z
     ·simp only [b1,VV]
      exact non fun z _ _ _=>b1 z
    ·simp only [h2,VV]
     exact non fun _ _ z _=>h2 z
   ·simp only [h1,VV]
    exact non fun _ z _ _=>h1 z
theorem ok_q15{f:Addr}{fd:FuncData}(F:Fun K "_law_short" "_law_short" s_q15 f fd)(T:Txt P w K mg)(C_q8:Cal P w K mg base 1 "_law_edge_of" ["_law_chart_here","_law_f","_law_n","_law_sort","_law_p"] (spD K 5 S_q8))(C_q0:Cal P w K mg base 1 "_law_brings" ["_law_table_here","_law_one","_law_other"] (spD K 3 S_q0)):FnOk P w K mg base CX0 2 f fd ["_law_chart_here","_law_one","_law_n","_law_other","_law_e"] (spD K 5 S_q15) :=
 fn_ok (k:=1) (b:=b_q15) F sc_q15 (fun cdv A outer s H E hr=>by
  refine ss_cons ?_ ?_
  ·refine s_set (i:=5) ?_ ?_ ?_ ?_
   ·exact sc_q15.nd
   ·exact rfl
   ·exact Or.inl rfl
   exact se_cal C_q8 (hr.mono (by decide)) rfl (sa_cons (sv 0) (sa_cons (se_ix ok_ix (sv 1) se_int (fun _ _=>rfl)) (sa_cons (sv 2) (sa_cons se_str (sa_cons (se_ix ok_ix (sv 1) se_int (fun _ _=>rfl)) sa_nil)))))
  refine ss_cons ?_ ?_
  ·refine s_if ?_ ?_ ?_
   ·exact st_w (sw_or (st_cmp ok_is (sv 5) se_non (nomark _)) (sw_or (st_cmp (ok_ne hr.units) (se_ix ok_ix (sv 3) se_int (fun _ _=>rfl)) (se_ix ok_ix (sv 5) se_int (fun _ _=>rfl)) (nomark _)) (sw_or1 (st_cmp (ok_ne hr.units) (se_ix ok_ix (sv 3) se_int (fun _ _=>rfl)) (se_op ok_sub (se_ix ok_ix (se_ix ok_ix (sv 0) (se_ix ok_ix (sv 5) se_int (fun _ _=>rfl)) (fun _ _=>rfl)) se_int (fun _ _=>rfl)) se_int) (nomark _)))))
   ·refine ss_one ?_
    refine s_ret ?_
    exact se_non
   exact ss_nil
  refine ss_cons ?_ ?_
  ·refine s_if ?_ ?_ ?_
   ·exact st_w (sw_or (st_not (st_truth (se_cal C_q0 (hr.mono (by decide)) rfl (sa_cons (se_ix ok_ix (sv 5) se_int (fun _ _=>rfl)) (sa_cons (se_ix ok_ix (sv 1) se_int (fun _ _=>rfl)) (sa_cons (se_ix ok_ix (sv 3) se_int (fun _ _=>rfl)) sa_nil)))))) (sw_or1 (st_not (st_truth (se_cal C_q0 (hr.mono (by decide)) rfl (sa_cons (se_ix ok_ix (sv 5) se_int (fun _ _=>rfl)) (sa_cons (se_ix ok_ix (sv 3) se_int (fun _ _=>rfl)) (sa_cons (sv 4) sa_nil))))))))
   ·refine ss_one ?_
    refine s_ret ?_
    exact se_non
   exact ss_nil
  refine ss_one ?_
  refine s_ret ?_
  refine se_tup (n:=6) ?_
  refine sa_cons ?_ ?_
  ·exact se_str
  refine sa_cons ?_ ?_
  ·exact se_ix ok_ix (sv 1) se_int (fun _ _=>rfl)
  refine sa_cons ?_ ?_
  ·exact se_ix ok_ix (sv 1) se_int (fun _ _=>rfl)
  refine sa_cons ?_ ?_
  ·exact se_ix ok_ix (sv 5) se_int (fun _ _=>rfl)
  refine sa_cons ?_ ?_
  ·exact sv 4
  refine sa_cons ?_ ?_
  ·exact se_op ok_plus (se_op ok_plus (se_ix ok_ix (sv 1) se_int (fun _ _=>rfl)) (se_ix ok_ix (sv 5) se_int (fun _ _=>rfl))) (se_ix ok_ix (sv 3) se_int (fun _ _=>rfl))
  exact sa_nil) imp_q15
noncomputable def b_q12:DS:=(dSeq (dAsg (dOp pIx (dV (dCons (dVar 2) (dCons (dC (.str "call")) dNil))) (dCB pInt (dCons (dOp (pEq true) (dVar 2) (dC (.str "step"))) dNil))) (dName 5))
  (dSeq (dAsg (dCal S_q8 (dCons (dVar 0) (dCons (dOp pIx (dVar 1) (dC (.int 1))) (dCons (dVar 3) (dCons (dVar 5) (dCons (dOp pIx (dVar 1) (dOp pSub (dCB pLen (dCons (dVar 1) dNil)) (dC (.int 3)))) dNil)))))) (dName 6))
  (dSeq (dIfS (dTst (dOp (pIs false) (dVar 6) (dC .non))) (dRet (dC .non)) dNext)
  (dSeq (dIfS (dTst (dOp (pEq false) (dVar 2) (dC (.str "in")))) (dSeq (dIfS (dTr (dCal S_q0 (dCons (dOp pIx (dVar 6) (dC (.int 5))) (dCons (dOp pIx (dVar 1) (dC (.int 3))) (dCons (dVar 4) dNil))))) (dRet (dTup (dCons (dC (.str "at")) (dCons (dOp pIx (dVar 6) (dC (.int 4))) (dCons (dC (.int 0)) (dCons (dVar 4) (dCons (dOp pPlus (dOp pIx (dVar 1) (dC (.int 4))) (dOp pIx (dVar 6) (dC (.int 3)))) dNil))))))) dNext)
  (dRet (dC .non))) dNext)
  (dSeq (dIfS (dTr (dCal S_q0 (dCons (dOp pIx (dVar 6) (dUn pNeg (dC (.int 1)))) (dCons (dOp pIx (dVar 1) (dC (.int 4))) (dCons (dVar 4) dNil))))) (dRet (dTup (dCons (dC (.str "within")) (dCons (dOp pIx (dVar 1) (dC (.int 1))) (dCons (dOp pIx (dVar 1) (dC (.int 2))) (dCons (dOp pIx (dVar 6) (dC (.int 2))) (dCons (dVar 4) (dCons (dOp pPlus (dOp pIx (dVar 1) (dC (.int 5))) (dOp pIx (dVar 6) (dC (.int 3)))) dNil)))))))) dNext)
  (dRet (dC .non)))))))
noncomputable def onwardC(C:Chart)(w:Mv)(one:Clm)(n e:Int):Option Clm:=match w,one with
 |.inn,.at f p d c=>(takes C f p d .inn n e).bind fun E=>match E.k with | .call g _ _ _=>some (.at g 0 e.toNat (c + E.cost)) | _=>none
 |.inn,_=>none
 |w,.within f a p d c=>(takes C f p d w n e).map fun E=>.within f a E.q e.toNat (c + E.cost)
 |_,_=>none
noncomputable def S_q12:DSp:=fun ds h Q=>∃ (c:D) (C:Chart) (w:Mv) (one:Clm) (n e:Int),ds=[c,clD one,.str w.w,.int n,.int e]∧ChD h c C∧WF C∧clOk C one∧(w = .inn ↔ ∃ f p d x,one = .at f p d x)∧Q (oD clD (onwardC C w one n e)) h
theorem imp_q12:∀ ds h Q,S_q12 ds h Q→runD 7 b_q12 ds h Q:=by
 rintro ds h Q ⟨c,C,w,one,n,e,rfl,hc,wf,ok,hw,q⟩
 have he:∀ {t:List Nat} {d:Nat},br t d e=true→0 ≤ e:=fun b2=>by unfold br at b2;rw [Bool.and_eq_true] at b2;exact of_decide_eq_true b2.1
 cases one with
 |«at» f p d x =>
  obtain rfl:=hw.mpr ⟨f,p,d,x,rfl⟩
  obtain ⟨F,hF,o1,o2⟩:=ok
  have q:Q (oD clD ((takes C f p d .inn n e).bind fun E=>match E.k with | .call g _ _ _=>some (.at g 0 e.toNat (x + E.cost)) | _=>none)) h:=q
  rw [takes_of,show (Mv.inn == Mv.step)=false from rfl] at q
  delta runD runX b_q12;simp only [List.map_cons,List.map_nil,List.cons_append,List.nil_append,List.length_cons,List.length_nil,List.replicate,Nat.reduceSub,Nat.reduceAdd,Nat.zero_add,Nat.sub_self]
  (try dsimp only);refine seq_intro fun N hN=>?_
  simp only [Mv.w,VV]
  subst hN
  (try dsimp only);refine seq_intro fun N hN=>?_
  simp only [clD,VV]
  refine ⟨c,C,f,p,F,n,false,rfl,hc,hF,?_⟩
  subst hN
  cases hE:edgeOf C f n false p with
  |none =>
   rw [hE] at q
   (try dsimp only);refine seq_intro fun N hN=>?_
   simp only [oD,VV]
   exact q
  |some E =>
   obtain ⟨F',hF',⟨o1',o2',o3',o4',o5'⟩,hs,hp⟩:=edgeOf_inv wf hE
   rw [hF] at hF';cases hF'
   rw [hE] at q
   obtain ⟨ep,eq,ec,ek⟩:=E
   cases ek with
   |step t=>cases hs
   |call g i bk o =>
    obtain ⟨G',hG',t1,t2,t3⟩:=o5'
    have q:Q (oD clD ((if br i d e=true then some (Edge.mk ep eq ec (.call g i bk o)) else none).bind fun E=>match E.k with | .call g _ _ _=>some (.at g 0 e.toNat (x + E.cost)) | _=>none)) h:=q
    (try dsimp only);refine seq_intro fun N hN=>?_
    simp only [oD,eD,VV]
    subst hN
    (try dsimp only);refine seq_intro fun N hN=>?_
    simp only [VV]
    refine ⟨i,_,_,d,e,rfl,t1,(wf.fn g G' hG').2.2.2.1,o2,?_⟩
    simp only [VV]
    by_cases b1:br i d e=true
    ·simp only [b1,VV]
     rw [if_pos b1] at q
     have q:Q (.tup [.str "at",nD g,nD 0,.int ((e.toNat:Nat):Int),.int ((x + ec:Nat):Int)]) h:=q
     rw [Int.toNat_of_nonneg (he b1),Int.natCast_add] at q
     exact q
    ·simp only [b1,VV]
     rw [if_neg b1] at q
     exact q
 |within f a p d x =>
  have nw:w ≠ .inn:=fun z=>by obtain ⟨_,_,_,_,z⟩:=hw.mp z;cases z
  obtain ⟨F,hF,o0,o1,o2⟩:=ok
  have q:Q (oD clD ((takes C f p d w n e).map fun E=>.within f a E.q e.toNat (x + E.cost))) h:=by
   cases w with
   |inn=>exact absurd rfl nw
   |_=>exact q
  rw [takes_of] at q
  have last:∀ E,edgeOf C f n (w == .step) p=some E→∃ t,atI (match eD E with | .tup xs=>xs | _=>[]) (-1)=some (tD t)∧E.tab w=t∧tOk t F.facts F.facts:=fun E hE=>by
   obtain ⟨F',hF',⟨o1',o2',o3',o4',o5'⟩,hs,hp⟩:=edgeOf_inv wf hE
   rw [hF] at hF';cases hF'
   obtain ⟨ep,eq,ec,ek⟩:=E
   cases w with
   |inn=>exact absurd rfl nw
   |step =>
    cases ek with
    |call g i bk o=>cases hs
    |step t=>exact ⟨t,rfl,rfl,o5'⟩
   |over =>
    cases ek with
    |step t=>cases hs
    |call g i bk o =>
     obtain ⟨G',hG',t1,t2,t3⟩:=o5'
     exact ⟨o,rfl,rfl,t3⟩
  have hsw:∀ N':Sl→Hh→Prop,(∀ y6,y6=D.str (sw (w == .step))→N' [some c,some (clD (.within f a p d x)),some (.str w.w),some (.int n),some (.int e),some y6,none] h)→True:=fun _ _=>trivial
  delta runD runX b_q12;simp only [List.map_cons,List.map_nil,List.cons_append,List.nil_append,List.length_cons,List.length_nil,List.replicate,Nat.reduceSub,Nat.reduceAdd,Nat.zero_add,Nat.sub_self]
  (try dsimp only);refine seq_intro fun N hN=>?_
  have st1:∀ s:Str,s=sw (w == .step)→N [some c,some (clD (.within f a p d x)),some (.str w.w),some (.int n),some (.int e),some (.str s),none] h:=fun s hs=>by
   subst hs
   subst hN
   (try dsimp only);refine seq_intro fun N hN=>?_
   simp only [clD,VV]
   refine ⟨c,C,f,p,F,n,(w == .step),rfl,hc,hF,?_⟩
   subst hN
   cases hE:edgeOf C f n (w == .step) p with
   |none =>
    rw [hE] at q
    (try dsimp only);refine seq_intro fun N hN=>?_
    simp only [oD,VV]
    exact q
   |some E =>
    obtain ⟨t,l1,l2,l3⟩:=last E hE
    rw [hE] at q
    have q:Q (oD clD ((if br (E.tab w) d e=true then some E else none).map fun E=>.within f a E.q e.toNat (x + E.cost))) h:=q
    rw [l2] at q
    have ixl:ixD h (eD E) (.int (-1))=some (tD t):=by
     obtain ⟨ep,eq,ec,ek⟩:=E
     cases ek <;> exact l1
    (try dsimp only);refine seq_intro fun N hN=>?_
    simp only [oD,eD_non,VV]
    subst hN
    (try dsimp only);refine seq_intro fun N hN=>?_
    have e5:((w.w) == (Str.ofString "in"))=false:=by
     cases w with
     |inn=>exact absurd rfl nw
     |step=>exact sq_step_in
     |over=>exact sq_over_in
    have e6:PyData.strOk w.w=true:=by cases w <;> decide +kernel
    simp only [e5,e6,VV]
    subst hN
    (try dsimp only);refine seq_intro fun N hN=>?_
    simp only [ixl,VV]
    refine ⟨t,_,_,d,e,rfl,l3,(wf.fn f F hF).2.2.2.1,o2,?_⟩
    simp only [VV]
    by_cases b1:br t d e=true
    ·simp only [b1,eD_2,eD_3,VV]
     rw [if_pos b1] at q
     have q:Q (.tup [.str "within",nD f,nD a,nD E.q,.int ((e.toNat:Nat):Int),.int ((x + E.cost:Nat):Int)]) h:=q
     rw [Int.toNat_of_nonneg (he b1),Int.natCast_add] at q
     exact q
    ·simp only [b1,VV]
     rw [if_neg b1] at q
     subst hN
     exact q
  cases w with
  |inn=>exact absurd rfl nw
  |step=>simp only [Mv.w,VV];exact st1 _ rfl
  |over=>simp only [Mv.w,VV];exact st1 _ rfl
theorem ok_q12{f:Addr}{fd:FuncData}(F:Fun K "_law_onward" "_law_onward" s_q12 f fd)(T:Txt P w K mg)(C_q8:Cal P w K mg base 1 "_law_edge_of" ["_law_chart_here","_law_f","_law_n","_law_sort","_law_p"] (spD K 5 S_q8))(C_q0:Cal P w K mg base 1 "_law_brings" ["_law_table_here","_law_one","_law_other"] (spD K 3 S_q0)):FnOk P w K mg base CX0 2 f fd ["_law_chart_here","_law_one","_law_sort","_law_n","_law_e"] (spD K 5 S_q12) :=
 fn_ok (k:=1) (b:=b_q12) F sc_q12 (fun cdv A outer s H E hr=>by
  refine ss_cons ?_ ?_
  ·refine s_set (i:=5) ?_ ?_ ?_ ?_
   ·exact sc_q12.nd
   ·exact rfl
   ·exact Or.inl rfl
   exact se_ix ok_ix (se_v (sn_lst (sa_cons (sv 2) (sa_cons se_str sa_nil)))) (se_callTy ok_int rfl T.b_int PyProof.Rows.boot_int (sa_cons (se_cmp (ok_ne hr.units) (sv 2) se_str (nomark _)) sa_nil)) (fun _ _=>rfl)
  refine ss_cons ?_ ?_
  ·refine s_set (i:=6) ?_ ?_ ?_ ?_
   ·exact sc_q12.nd
   ·exact rfl
   ·exact Or.inl rfl
   exact se_cal C_q8 (hr.mono (by decide)) rfl (sa_cons (sv 0) (sa_cons (se_ix ok_ix (sv 1) se_int (fun _ _=>rfl)) (sa_cons (sv 3) (sa_cons (sv 5) (sa_cons (se_ix ok_ix (sv 1) (se_op ok_sub (se_callB ok_len rfl T.b_len PySem.boot_len (sa_cons (sv 1) sa_nil)) se_int) (fun _ _=>rfl)) sa_nil)))))
  refine ss_cons ?_ ?_
  ·refine s_if ?_ ?_ ?_
   ·exact st_cmp ok_is (sv 6) se_non (nomark _)
   ·refine ss_one ?_
    refine s_ret ?_
    exact se_non
   exact ss_nil
  refine ss_cons ?_ ?_
  ·refine s_if ?_ ?_ ?_
   ·exact st_cmp (ok_eq hr.units) (sv 2) se_str (nomark _)
   ·refine ss_cons ?_ ?_
    ·refine s_if ?_ ?_ ?_
     ·exact st_truth (se_cal C_q0 (hr.mono (by decide)) rfl (sa_cons (se_ix ok_ix (sv 6) se_int (fun _ _=>rfl)) (sa_cons (se_ix ok_ix (sv 1) se_int (fun _ _=>rfl)) (sa_cons (sv 4) sa_nil))))
     ·refine ss_one ?_
      refine s_ret ?_
      refine se_tup (n:=5) ?_
      refine sa_cons ?_ ?_
      ·exact se_str
      refine sa_cons ?_ ?_
      ·exact se_ix ok_ix (sv 6) se_int (fun _ _=>rfl)
      refine sa_cons ?_ ?_
      ·exact se_int
      refine sa_cons ?_ ?_
      ·exact sv 4
      refine sa_cons ?_ ?_
      ·exact se_op ok_plus (se_ix ok_ix (sv 1) se_int (fun _ _=>rfl)) (se_ix ok_ix (sv 6) se_int (fun _ _=>rfl))
      exact sa_nil
     exact ss_nil
    refine ss_one ?_
    refine s_ret ?_
    exact se_non
   exact ss_nil
  refine ss_cons ?_ ?_
  ·refine s_if ?_ ?_ ?_
   ·exact st_truth (se_cal C_q0 (hr.mono (by decide)) rfl (sa_cons (se_ix ok_ix (sv 6) (se_un ok_neg se_int) (fun _ _=>rfl)) (sa_cons (se_ix ok_ix (sv 1) se_int (fun _ _=>rfl)) (sa_cons (sv 4) sa_nil))))
   ·refine ss_one ?_
    refine s_ret ?_
    refine se_tup (n:=6) ?_
    refine sa_cons ?_ ?_
    ·exact se_str
    refine sa_cons ?_ ?_
    ·exact se_ix ok_ix (sv 1) se_int (fun _ _=>rfl)
    refine sa_cons ?_ ?_
    ·exact se_ix ok_ix (sv 1) se_int (fun _ _=>rfl)
    refine sa_cons ?_ ?_
    ·exact se_ix ok_ix (sv 6) se_int (fun _ _=>rfl)
    refine sa_cons ?_ ?_
    ·exact sv 4
    refine sa_cons ?_ ?_
    ·exact se_op ok_plus (se_ix ok_ix (sv 1) se_int (fun _ _=>rfl)) (se_ix ok_ix (sv 6) se_int (fun _ _=>rfl))
    exact sa_nil
   exact ss_nil
  refine ss_one ?_
  refine s_ret ?_
  exact se_non) imp_q12
noncomputable def b_q10:DS:=(dSeq (dAsg (dTk dNil) (dName 4))
  (dSeq (dAsg (dOp pSub (dOp pIx (dOp pIx (dVar 0) (dOp pIx (dVar 2) (dC (.int 4)))) (dC (.int 0))) (dC (.int 1))) (dName 5))
  (dSeq (dFor (dIRange (dCons (dCB pLen (dCons (dVar 1) dNil)) dNil)) (dName 6) (dSeq (dAsg (dOp pIx (dVar 1) (dVar 6)) (dName 7))
  (dIfS (dAnd (dTst (dOp (pEq false) (dOp pIx (dVar 7) (dC (.int 0))) (dC (.str "within")))) (dAnd (dTst (dOp (pEq false) (dOp pIx (dVar 7) (dC (.int 1))) (dOp pIx (dVar 2) (dC (.int 4))))) (dAnd (dTst (dOp (pEq false) (dOp pIx (dVar 7) (dC (.int 3))) (dVar 5))) (dTst (dOp (pEq false) (dOp pBand (dOp pShr (dOp pIx (dOp pIx (dVar 2) (dC (.int 5))) (dVar 3)) (dOp pIx (dVar 7) (dC (.int 2)))) (dC (.int 1))) (dC (.int 1))))))) (dDrop (dExtend (dVar 4) (dCons (dV (dComp [none,some 6] (dISeq (dCal S_q9 (dCons (dOp pIx (dOp pIx (dVar 2) (dC (.int 6))) (dOp pIx (dVar 7) (dC (.int 4)))) dNil))) (dName 0) dNoIf (dTup (dCons (dVar 1) (dCons (dVar 0) dNil))))) dNil))) dNext)))
  (dRet (dVar 4)))))
theorem mem6{m e:Nat}(h:e ∈ facts6 m):m.testBit e=true∧e < 6:=by
 unfold facts6 at h
 rw [List.mem_filter,List.mem_range] at h
 exact ⟨h.2,h.1⟩
theorem len6(m:Nat):(facts6 m).length ≤ 6:=by
 unfold facts6
 have:=List.length_filter_le (fun d=>m.testBit d) (List.range 6)
 simpa using this
noncomputable def jD(x:Nat×Nat):D:=.tup [nD x.1,nD x.2]
noncomputable def inOk(C:Chart)(cs:List Clm)(g:Nat)(i bk:List Nat)(d:Nat)(x:Nat×Nat):Prop:=∃ b px y c',cs[x.1]?=some (.within g b px y c')∧(∃ G,C[g]?=some G∧px + 1=G.places)∧br i d b=true∧br bk y x.2=true
noncomputable def S_q10:DSp:=fun ds h Q=>∃ (c a:D) (C:Chart) (cs:List Clm) (E:Edge) (F:Fn) (g d:Nat) (i bk o:List Nat),ds=[c,a,eD E,nD d]∧E.k = .call g i bk o∧ChD h c C∧WF C∧eOk C F E∧d < F.facts∧lsOf h a=some (cs.map clD)∧cs.length ≤ 1000∧(∀ c ∈ cs,clOk C c)∧∀ xs:List (Nat×Nat),xs.length ≤ 6000→(∀ x ∈ xs,inOk C cs g i bk d x)→Q (.lst (xs.map jD)) h
theorem imp_q10:∀ ds h Q,S_q10 ds h Q→runD 8 b_q10 ds h (Dr h Q):=by
 rintro ds h Q ⟨c,a,C,cs,E,F,g,d,i,bk,o,rfl,hk,hc,wf,⟨o1,o2,o3,o4,o5⟩,hd,ha,hl,ok,q⟩
 obtain ⟨ep,eq,ec,ek⟩:=E
 dsimp only at hk
 subst hk
 obtain ⟨G,hG,t1,t2,t3⟩:=o5
 obtain ⟨x,e1,e2⟩:=hc.fn hG
 have pr:∀ o,Pre h (h ++ [o]):=fun o=>Pre.app _ _
 have e1':∀ o,ixD (h ++ [o]) c (nD g)=some (.tup [nD G.places,nD G.facts,x]):=fun o=>by
  obtain ⟨x',e1',_⟩:=(hc.mono (pr o)).fn hG
  obtain ⟨fs,q1,q2,q3⟩:=hc
  rw [ix_ls ((pr o).ls q1)]
  rw [ix_ls q1] at e1
  exact e1
 delta runD runX b_q10;simp only [List.map_cons,List.map_nil,List.cons_append,List.nil_append,List.length_cons,List.length_nil,List.replicate,Nat.reduceSub,Nat.reduceAdd,Nat.zero_add,Nat.sub_self]
 (try dsimp only);refine seq_intro fun N hN=>?_
 simp only [VV]
 subst hN
 (try dsimp only);refine seq_intro fun N hN=>?_
 simp only [eD,e1',VV]
 subst hN
 (try dsimp only);refine seq_intro fun N hN=>?_
 simp only [len_ls ((pr _).ls ha),List.length_map,VV]
 refine ⟨by first | decide | omega,?_⟩
 rw [rangeD_map,Int.toNat_natCast]
 refine forL_map (fun p δ h'=>∃ (xs:List (Nat×Nat)) (x6 x7:Option D),δ=[some c,some a,some (eD ⟨ep,eq,ec,.call g i bk o⟩),some (nD d),some (.ref h.length),some (.int ((G.places:Int) - 1)),x6,x7]∧h'=h ++ [.lst (xs.map jD)]∧xs.length ≤ 6 * p.length∧∀ x ∈ xs,inOk C cs g i bk d x) ⟨[],none,none,rfl,rfl,by simp,fun x hx=>nomatch hx⟩ (fun _ _ _ _=>Src.ok_nil) ?_ ?_
 ·rintro p j r δ h' N1 e ⟨xs,x6,x7,rfl,rfl,hxl,hxs⟩ hN1
  obtain ⟨hjp,hj⟩:=range_split e
  obtain ⟨one,ho⟩:∃ y,cs[j]?=some y:=⟨_,List.getElem?_eq_getElem hj⟩
  have okc:=ok one (List.mem_of_getElem? ho)
  have ax:atI (cs.map clD) (0 + (j:Int))=some (clD one):=by rw [Int.zero_add,atN,List.getElem?_map,ho];rfl
  have same:∀ x7:Option D,N1 [some c,some a,some (eD ⟨ep,eq,ec,.call g i bk o⟩),some (nD d),some (.ref h.length),some (.int ((G.places:Int) - 1)),some (.int (0 + (j:Int))),x7] (h ++ [.lst (xs.map jD)]):=fun x7=>hN1 _ _ ⟨xs,_,_,rfl,rfl,by rw [List.length_append];simp;omega,hxs⟩
  simp only [VV]
  (try dsimp only);refine seq_intro fun N hN=>?_
  simp only [ix_ls ((pr _).ls ha),ax,VV]
  subst hN
  cases one with
  |«at» f p' d' x'=>simp only [clD,VV];exact same _
  |within f b px y c' =>
   obtain ⟨F',hF',u1,u2,u3⟩:=okc
   have e3:((f:Int) == (g:Int))=decide (f=g):=by first | exact beqN _ _ | exact beqP _ _ | exact beqS _ _
   have e4:((px:Int) == (G.places:Int) - 1)=decide (px + 1=G.places):=by first | exact beqN _ _ | exact beqP _ _ | exact beqS _ _
   have ti:∀ o,ixD (h ++ [o]) (tD i) (nD d)=some (nD (i.getD d 0)):=fun o=>tD_ix _ t1 hd
   simp only [clD,eD,e3,e4,VV]
   by_cases c1:f=g
   ·by_cases c2:px + 1=G.places
    ·simp only [c1,c2,ti,VV]
     refine ⟨by first | decide | omega,?_⟩
     rw [show ((b:Nat):Int).toNat=b by first | decide | omega,bitE]
     subst c1
     rw [hG] at hF';cases hF'
     refine iteB (fun z=>?_) (fun z=>?_)
     ·have tb:∀ o,ixD (h ++ [o]) (tD bk) (nD y)=some (nD (bk.getD y 0)):=fun o=>tD_ix _ t2 u3
      simp only [get_new,tb,VV]
      refine ⟨_,rfl,?_⟩
      simp only [VV]
      refine ⟨by rw [List.length_map];have:=len6 (bk.getD y 0);omega,?_⟩
      refine comp1n (fun e=>jD (j,e)) Src.ok_nil none (fun e he K k=>?_) ?_
      ·simp only [VV]
       rw [Int.zero_add];exact k
      ·simp only [get_new,set_new,List.length_map,VV]
       have l6:=len6 (bk.getD y 0)
       refine ⟨by first | decide | omega,hN1 _ _ ⟨xs ++ (facts6 (bk.getD y 0)).map (fun e=>(j,e)),_,_,rfl,?_,?_,fun x hx=>?_⟩⟩
       ·rw [List.map_append,List.map_map];rfl
       ·simp only [List.length_append,List.length_map,List.length_singleton];omega
       ·rcases List.mem_append.mp hx with w | w
        ·exact hxs x w
        ·obtain ⟨e',he',rfl⟩:=List.mem_map.mp w
         refine ⟨b,px,y,c',ho,⟨G,hG,c2⟩,?_,?_⟩
         ·unfold br;rw [decide_eq_true (by first | decide | omega)];simpa using z
         ·unfold br;rw [decide_eq_true (by first | decide | omega)];simpa using (mem6 he').1
     ·exact same _
    ·simp only [c1,c2,VV]
     exact same _
   ·simp only [c1,VV]
    exact same _
 ·rintro δ h' ⟨xs,x6,x7,rfl,rfl,hxl,hxs⟩
  subst hN
  simp only [VV]
  have:=Dr.dropL (h:=h) (Q:=Q) (xs:=xs.map jD) (g1:=[]) (g2:=[]) (k:=h.length) (nrDs_map (fun _=>rfl) xs) (by simp) (q xs (by simp at hxl;omega) hxs)
  simpa using this
theorem ok_q10{f:Addr}{fd:FuncData}(F:Fun K "_law_inner" "_law_inner" s_q10 f fd)(T:Txt P w K mg)(C_q9:Cal P w K mg base 1 "_law_facts" ["_law_mask"] (spD K 1 S_q9)):FnOk P w K mg base CX0 2 f fd ["_law_chart_here","_law_done","_law_edge_here","_law_d"] (spD K 4 S_q10) :=
 fn_okD (k:=1) (b:=b_q10) F sc_q10 (fun cdv A outer s H E hr=>by
  refine ss_cons ?_ ?_
  ·refine s_set (i:=4) ?_ ?_ ?_ ?_
   ·exact sc_q10.nd
   ·exact rfl
   ·exact Or.inl rfl
   exact se_t (sn_lst sa_nil)
  refine ss_cons ?_ ?_
  ·refine s_set (i:=5) ?_ ?_ ?_ ?_
   ·exact sc_q10.nd
   ·exact rfl
   ·exact Or.inl rfl
   exact se_op ok_sub (se_ix ok_ix (se_ix ok_ix (sv 0) (se_ix ok_ix (sv 2) se_int (fun _ _=>rfl)) (fun _ _=>rfl)) se_int (fun _ _=>rfl)) se_int
  refine ss_cons ?_ ?_
  ·refine s_for ?_ ?_ ?_ ?_ ?_
   ·exact PassesOwn.never
   ·exact rfl
   ·exact si_range1 rfl T.b_range (sa_cons (se_callB ok_len rfl T.b_len PySem.boot_len (sa_cons (sv 1) sa_nil)) sa_nil)
   ·exact sg_name (i:=6) sc_q10.nd rfl (Or.inr rfl)
   refine ss_cons ?_ ?_
   ·refine s_set (i:=7) ?_ ?_ ?_ ?_
    ·exact sc_q10.nd
    ·exact rfl
    ·exact Or.inl rfl
    exact se_ix ok_ix (sv 1) (sv 6) (fun _ _=>rfl)
   refine ss_one ?_
   refine s_if ?_ ?_ ?_
   ·exact st_w (sw_and (st_cmp (ok_eq hr.units) (se_ix ok_ix (sv 7) se_int (fun _ _=>rfl)) se_str (nomark _)) (sw_and (st_cmp (ok_eq hr.units) (se_ix ok_ix (sv 7) se_int (fun _ _=>rfl)) (se_ix ok_ix (sv 2) se_int (fun _ _=>rfl)) (nomark _)) (sw_and (st_cmp (ok_eq hr.units) (se_ix ok_ix (sv 7) se_int (fun _ _=>rfl)) (sv 5) (nomark _)) (sw_and1 (st_cmp (ok_eq hr.units) (se_op ok_band (se_op ok_shr (se_ix ok_ix (se_ix ok_ix (sv 2) se_int (fun _ _=>rfl)) (sv 3) (fun _ _=>rfl)) (se_ix ok_ix (sv 7) se_int (fun _ _=>rfl))) se_int) se_int (nomark _))))))
   ·refine ss_one ?_
    refine s_expr ?_
    refine se_extend (n:=1) ?_ ?_
    ·exact sv 4
    refine sa_cons ?_ ?_
    ·refine se_v ?_
     exact sn_comp rfl (N':= ["_law_e","_law_j"]) (js:=[none,some 6]) ⟨rfl,by decide +kernel,rfl,rfl,rfl⟩ (si_seq (se_cal C_q9 (hr.mono (by decide)) rfl (sa_cons (se_ix ok_ix (se_ix ok_ix (sv 2) se_int (fun _ _=>rfl)) (se_ix ok_ix (sv 7) se_int (fun _ _=>rfl)) (fun _ _=>rfl)) sa_nil))) (fun s0 H0 fp=>⟨(sg_name (i:=0) (show (["_law_e","_law_j"]:List Str).Nodup by decide +kernel) rfl (Or.inl rfl)),sf_nil,(se_tup (sa_cons (sv 1) (sa_cons (sv 0) sa_nil)))⟩)
    exact sa_nil
   exact ss_nil
  refine ss_one ?_
  refine s_ret ?_
  exact sv 4) imp_q10
noncomputable def b_q16:DS:=(dSeq (dAsg (dTk (dListOf (dCons (dVar 0) dNil))) (dName 0))
  (dSeq (dFor (dIRange (dCons (dOp pPlus (dC (.int 1)) (dCal S_q11 (dCons (dVar 1) (dCons (dC (.int 3)) dNil)))) dNil)) (dName 2) (dSeq (dAsg (dCal S_q11 (dCons (dVar 1) (dCons (dCB pLen (dCons (dVar 0) dNil)) dNil))) (dName 3))
  (dSeq (dAsg (dOp pIx (dVar 0) (dVar 3)) (dName 4))
  (dSeq (dAsg (dCal S_q11 (dCons (dVar 1) (dCons (dC (.int 8)) dNil))) (dName 5))
  (dIfS (dTst (dOp (pEq false) (dVar 5) (dC (.int 0)))) (dSeq (dAsg (dCal S_q11 (dCons (dVar 1) (dCons (dCB pLen (dCons (dVar 0) dNil)) dNil))) (dName 6))
  (dSeq (dAsg (dOp pIx (dVar 0) (dVar 6)) (dSubL (dVar 0) (dVar 3)))
  (dAsg (dVar 4) (dSubL (dVar 0) (dVar 6))))) (dIfS (dAnd (dTst (dOp (pEq false) (dVar 5) (dC (.int 1)))) (dTst (dOp (pIn false) (dOp pIx (dVar 4) (dC (.int 0))) (dTup (dCons (dC (.str "step")) (dCons (dC (.str "over")) (dCons (dC (.str "in")) dNil))))))) (dAsg (dOp pPlus (dTup (dCons (dOp pIx (dV (dCons (dC (.str "step")) (dCons (dC (.str "over")) (dCons (dC (.str "in")) dNil)))) (dCal S_q11 (dCons (dVar 1) (dCons (dC (.int 3)) dNil)))) dNil)) (dSl (dVar 4) (dPart (dC (.int 1))) dNoPart)) (dSubL (dVar 0) (dVar 3))) (dSeq (dAsg (dOp pPlus (dC (.int 1)) (dCal S_q11 (dCons (dVar 1) (dCons (dOp pSub (dCB pLen (dCons (dVar 4) dNil)) (dC (.int 1))) dNil)))) (dName 7))
  (dSeq (dAsg (dV (dCons (dUn pNeg (dC (.int 1))) (dCons (dOp pPlus (dOp pIx (dVar 4) (dVar 7)) (dC (.int 1))) (dCons (dOp pSub (dOp pIx (dVar 4) (dVar 7)) (dC (.int 1))) (dCons (dC (.int 6)) (dCons (dOp pPow (dC (.int 10)) (dC (.int 20))) (dCons (dVar 3) (dCons (dOp pPlus (dVar 3) (dC (.int 1))) (dCons (dCal S_q11 (dCons (dVar 1) (dCons (dCB pLen (dCons (dVar 0) dNil)) dNil))) (dCons (dUn pNeg (dOp pPow (dC (.int 10)) (dC (.int 20)))) (dCons (dC (.int 0)) dNil))))))))))) (dName 8))
  (dAsg (dOp pPlus (dOp pPlus (dSl (dVar 4) dNoPart (dPart (dVar 7))) (dTup (dCons (dOp pIx (dVar 8) (dCal S_q11 (dCons (dVar 1) (dCons (dC (.int 10)) dNil)))) dNil))) (dSl (dVar 4) (dPart (dOp pPlus (dVar 7) (dC (.int 1)))) dNoPart)) (dSubL (dVar 0) (dVar 3)))))))))))
  (dRet (dVar 0))))
noncomputable def S_q16:DSp:=fun ds h Q=>∃ (rs:List Row) (i:Nat) (s:Int),ds=[.lst (rs.map rD),.ref i]∧h[i]?=some (.lst [.int s])∧1 ≤ rs.length∧rs.length ≤ 5000∧∀ (rs':List Row) (s':Int),rs'.length=rs.length→Q (.lst (rs'.map rD)) (h.set i (.lst [.int s']))
theorem imp_q16:∀ ds h Q,S_q16 ds h Q→runD 9 b_q16 ds h (Dr h Q):=by
 rintro ds h Q ⟨rs,i,s,rfl,hi,hl1,hl,q⟩
 have eh:∀ g,h ++ g=(h.set i (.lst [.int s])) ++ g:=fun g=>by rw [set_id hi]
 delta runD runX b_q16;simp only [List.map_cons,List.map_nil,List.cons_append,List.nil_append,List.length_cons,List.length_nil,List.replicate,Nat.reduceSub,Nat.reduceAdd,Nat.zero_add,Nat.sub_self]
 (try dsimp only);refine seq_intro fun N hN=>?_
 simp only [VV]
 rw [eh]
 subst hN
 (try dsimp only);refine seq_intro fun N hN=>?_
 simp only [VV]
 refine ⟨i,s,3,rfl,st_get hi,by first | decide | omega,fun s1 r1 hr1=>?_⟩
 rw [st_set hi]
 simp only [VV]
 refine ⟨by first | decide | omega,?_⟩
 rw [rangeD_map]
 refine forL_map (fun p δ h'=>∃ (rs1:List Row) (s1:Int) (x2 x3 x4 x5 x6 x7 x8:Option D),δ=[some (.ref h.length),some (.ref i),x2,x3,x4,x5,x6,x7,x8]∧h'=(h.set i (.lst [.int s1])) ++ [.lst (rs1.map rD)]∧rs1.length=rs.length) ⟨rs,s1,none,none,none,none,none,none,none,rfl,rfl,rfl⟩ (fun _ _ _ _=>Src.ok_nil) ?_ ?_
 ·rintro p t rest δ h' N1 e ⟨rs1,s1,x2,x3,x4,x5,x6,x7,x8,rfl,rfl,hl2⟩ hN1
  have ls:∀ (s:Int) (l:List Row),lsOf ((h.set i (.lst [.int s])) ++ [.lst (l.map rD)]) (.ref h.length)=some (l.map rD):=fun s l=>lsOf_ref nw_get
  simp only [VV]
  (try dsimp only);refine seq_intro fun N hN=>?_
  simp only [len_ls (ls _ _),List.length_map,VV]
  refine ⟨i,s1,_,rfl,st_get hi,by first | decide | omega,fun s2 at_ hat=>?_⟩
  rw [st_set hi]
  have hat':at_ < rs1.length:=by first | decide | omega
  obtain ⟨r,hr⟩:∃ r,rs1[at_]?=some r:=⟨_,List.getElem?_eq_getElem hat'⟩
  have ix:∀ s,ixD ((h.set i (.lst [.int s])) ++ [.lst (rs1.map rD)]) (.ref h.length) (nD at_)=some (rD r):=fun s=>by rw [ix_ls (ls _ _),atN,List.getElem?_map,hr];rfl
  subst hN
  (try dsimp only);refine seq_intro fun N hN=>?_
  simp only [ix,VV]
  subst hN
  (try dsimp only);refine seq_intro fun N hN=>?_
  simp only [VV]
  refine ⟨i,s2,8,rfl,st_get hi,by first | decide | omega,fun s3 way hway=>?_⟩
  rw [st_set hi]
  subst hN
  have putX:∀ (s:Int) (l:List Row) (r':Row) (k:Nat) (K:Hh→Prop),k < l.length→K ((h.set i (.lst [.int s])) ++ [.lst ((l.set k r').map rD)])→setD (.ref h.length) (nD k) (rD r') ((h.set i (.lst [.int s])) ++ [.lst (l.map rD)]) K:=fun s l r' k K hk z=>by
   show (match ((h.set i (.lst [.int s])) ++ [O.lst (l.map rD)])[h.length]? with | some (.lst xs)=>(match ixN xs.length (k:Int) with | some m=>K (List.set ((h.set i (.lst [.int s])) ++ [O.lst (l.map rD)]) h.length (.lst (xs.set m (rD r')))) | none=>False) | _=>False)
   rw [nw_get]
   dsimp only
   rw [List.length_map,ixN_nat hk]
   dsimp only
   rw [nw_set,← List.map_set]
   exact z
  have fin:∀ (s:Int) (r':Row) (x5 x6 x7 x8:Option D),N1 [some (.ref h.length),some (.ref i),some (.int (0 + (t:Int))),some (nD at_),some (rD r),x5,x6,x7,x8] ((h.set i (.lst [.int s])) ++ [.lst ((rs1.set at_ r').map rD)]):=fun s r' x5 x6 x7 x8 =>
   hN1 _ _ ⟨rs1.set at_ r',s,_,_,_,_,_,_,_,rfl,rfl,by rw [List.length_set];exact hl2⟩
  (try dsimp only);refine if_intro fun A1 B1 hA hB=>?_
  have e0:((way:Int) == 0)=decide (way=0):=by rw [Bool.eq_iff_iff];simp
  have e1:((way:Int) == 1)=decide (way=1):=by rw [Bool.eq_iff_iff];simp;omega
  by_cases w0:way=0
  ·have e0':((way:Int) == 0)=true:=by rw [e0];exact decide_eq_true w0
   simp only [e0',VV]
   subst hA
   (try dsimp only);refine seq_intro fun N hN=>?_
   simp only [len_ls (ls _ _),List.length_map,VV]
   refine ⟨i,s3,_,rfl,st_get hi,by first | decide | omega,fun s4 ot hot=>?_⟩
   rw [st_set hi]
   have hot':ot < rs1.length:=by first | decide | omega
   obtain ⟨r2,hr2⟩:∃ r,rs1[ot]?=some r:=⟨_,List.getElem?_eq_getElem hot'⟩
   have ix2:∀ s,ixD ((h.set i (.lst [.int s])) ++ [.lst (rs1.map rD)]) (.ref h.length) (nD ot)=some (rD r2):=fun s=>by rw [ix_ls (ls _ _),atN,List.getElem?_map,hr2];rfl
   subst hN
   (try dsimp only);refine seq_intro fun N hN=>?_
   simp only [ix2,VV2]
   refine putX _ _ _ _ _ hat' ?_
   subst hN
   simp only [VV2]
   refine putX _ _ _ _ _ (by rw [List.length_set];exact hot') ?_
   exact hN1 _ _ ⟨(rs1.set at_ r2).set ot r,s4,_,_,_,_,_,_,_,rfl,rfl,by rw [List.length_set,List.length_set];exact hl2⟩
  ·have e0':((way:Int) == 0)=false:=by rw [e0];exact decide_eq_false w0
   simp only [e0',VV]
   subst hB
   (try dsimp only);refine if_intro fun A1 B1 hA hB=>?_
   have elseX:∀ (x6 x7 x8:Option D),B1 [some (.ref h.length),some (.ref i),some (.int (0 + (t:Int))),some (nD at_),some (rD r),some (nD way),x6,x7,x8] ((h.set i (.lst [.int s3])) ++ [.lst (rs1.map rD)]):=by
    intro x6 x7 x8
    subst hB
    obtain ⟨w,is,er,i1,i4,back⟩:=row_shape r
    rw [er] at fin ⊢
    (try dsimp only);refine seq_intro fun N hN=>?_
    simp only [List.length_cons,List.length_map,VV]
    refine ⟨i,s3,_,rfl,st_get hi,by first | decide | omega,fun s4 j hj=>?_⟩
    rw [st_set hi]
    have hj':j < is.length:=by first | decide | omega
    have ij:atI (.str w :: is.map D.int) ((1:Int) + (j:Int))=some (.int is[j]):=by
     rw [show (1:Int) + (j:Int)=((j + 1:Nat):Int) by first | decide | omega,atN,List.getElem?_cons_succ,List.getElem?_map,List.getElem?_eq_getElem hj'];rfl
    subst hN
    (try dsimp only);refine seq_intro fun N hN=>?_
    simp only [ij,len_ls (ls _ _),List.length_map,VV]
    refine ⟨⟨by decide,by decide,by decide⟩,i,s4,_,rfl,st_get hi,by first | decide | omega,fun s5 o5 ho5=>?_⟩
    rw [st_set hi]
    simp only [VV]
    refine ⟨⟨by decide,by decide,by decide⟩,?_⟩
    generalize (10:Int) ^ Int.toNat 20=big
    subst hN
    simp only [cut_to _ _ hj',cut_from _ _ hj',VV2]
    refine ⟨i,s5,10,rfl,st_get hi,by first | decide | omega,fun s6 o6 ho6=>?_⟩
    rw [st_set hi]
    obtain ⟨v,hv⟩:∃ v:Int,atI [D.int (-1),D.int (is[j] + 1),D.int (is[j] - 1),D.int 6,D.int big,D.int (at_:Int),D.int ((at_:Int) + 1),D.int (o5:Int),D.int (-big),D.int 0] (o6:Int)=some (.int v):=by
     have:∀ (l:List Int),o6 < l.length→∃ v,atI (l.map D.int) (o6:Int)=some (.int v):=fun l hl=>⟨l[o6],by rw [atN,List.getElem?_map,List.getElem?_eq_getElem hl];rfl⟩
     exact this [-1,is[j] + 1,is[j] - 1,6,big,(at_:Int),(at_:Int) + 1,(o5:Int),-big,0] (by show o6 < 10;omega)
    simp only [hv,VV2]
    obtain ⟨r',er'⟩:=back (is.take j ++ v :: is.drop (j + 1)) (by rw [List.length_append,List.length_cons,List.length_take,List.length_drop];omega)
    have eT:D.tup (.str w :: ((is.take j).map D.int ++ [.int v] ++ (is.drop (j + 1)).map D.int))=rD r':=by
     rw [er',List.map_append,List.map_cons,List.append_assoc];rfl
    rw [eT]
    refine ⟨List.cons_ne_nil _ _,by rw [List.length_map,List.length_take];omega,List.cons_ne_nil _ _,by rw [List.length_append,List.length_map,List.length_map,List.length_take,List.length_drop,List.length_singleton];omega,?_⟩
    exact putX _ _ _ _ _ hat' (fin _ _ _ _ _ _)
   by_cases w1:way=1
   ·have e1':((way:Int) == 1)=true:=by rw [e1];exact decide_eq_true w1
    obtain ⟨w0,i0,hin⟩:=row0 r
    simp only [e1',i0,hin,VV]
    refine ⟨rfl,?_⟩
    cases hm:isMv r with
    |false =>
     simp only [VV]
     exact elseX _ _ _
    |true =>
     simp only [VV]
     subst hA
     cases r with
     |mv w k n e =>
      simp only [rD,VV2]
      refine ⟨i,s3,3,rfl,st_get hi,by first | decide | omega,fun s4 j hj=>?_⟩
      rw [st_set hi]
      obtain ⟨w',hw'⟩:∃ w':Mv,atI [D.str "step",D.str "over",D.str "in"] (j:Int)=some (.str w'.w):=by
       have:j=0∨j=1∨j=2:=by first | decide | omega
       rcases this with rfl | rfl | rfl
       ·exact ⟨.step,rfl⟩
       ·exact ⟨.over,rfl⟩
       ·exact ⟨.inn,rfl⟩
      have cu:cutD [D.str w.w,.int k,.int n,.int e] (some 1) none=[.int k,.int n,.int e]:=rfl
      simp only [hw',cu,VV2]
      refine ⟨List.cons_ne_nil _ _,by decide,?_⟩
      exact putX _ _ (.mv w' k n e) _ _ hat' (fin _ _ _ _ _ _)
     |_=>cases hm
   ·have e1':((way:Int) == 1)=false:=by rw [e1];exact decide_eq_false w1
    simp only [e1',VV]
    exact elseX _ _ _
 ·rintro δ h' ⟨rs1,s1,x2,x3,x4,x5,x6,x7,x8,rfl,rfl,hl2⟩
  subst hN
  simp only [VV]
  exact ⟨h.set i (.lst [.int s1]),[.lst (rs1.map rD)],.lst (rs1.map rD),rfl,List.length_set ..,fun k o e=>st_or hi e,.opn (Nat.le_refl _) nw_get (.of (nrDs_map nrD_rD rs1)),q rs1 s1 hl2⟩
theorem ok_q16{f:Addr}{fd:FuncData}(F:Fun K "_law_spoilt" "_law_spoilt" s_q16 f fd)(T:Txt P w K mg)(C_q11:Cal P w K mg base 1 "_law_next" ["_law_state","_law_many"] (spD K 2 S_q11)):FnOk P w K mg base CX0 2 f fd ["_law_rows","_law_state"] (spD K 2 S_q16) :=
 fn_okD (k:=1) (b:=b_q16) F sc_q16 (fun cdv A outer s H E hr=>by
  refine ss_cons ?_ ?_
  ·refine s_set (i:=0) ?_ ?_ ?_ ?_
   ·exact sc_q16.nd
   ·exact rfl
   ·exact Or.inl rfl
   exact se_t (sn_list rfl T.b_list (sa_cons (sv 0) sa_nil))
  refine ss_cons ?_ ?_
  ·refine s_for ?_ ?_ ?_ ?_ ?_
   ·exact PassesOwn.never
   ·exact rfl
   ·exact si_range1 rfl T.b_range (sa_cons (se_op ok_plus se_int (se_cal C_q11 (hr.mono (by decide)) rfl (sa_cons (sv 1) (sa_cons se_int sa_nil)))) sa_nil)
   ·exact sg_name (i:=2) sc_q16.nd rfl (Or.inl rfl)
   refine ss_cons ?_ ?_
   ·refine s_set (i:=3) ?_ ?_ ?_ ?_
    ·exact sc_q16.nd
    ·exact rfl
    ·exact Or.inl rfl
    exact se_cal C_q11 (hr.mono (by decide)) rfl (sa_cons (sv 1) (sa_cons (se_callB ok_len rfl T.b_len PySem.boot_len (sa_cons (sv 0) sa_nil)) sa_nil))
   refine ss_cons ?_ ?_
   ·refine s_set (i:=4) ?_ ?_ ?_ ?_
    ·exact sc_q16.nd
    ·exact rfl
    ·exact Or.inl rfl
    exact se_ix ok_ix (sv 0) (sv 3) (fun _ _=>rfl)
   refine ss_cons ?_ ?_
   ·refine s_set (i:=5) ?_ ?_ ?_ ?_
    ·exact sc_q16.nd
    ·exact rfl
    ·exact Or.inl rfl
    exact se_cal C_q11 (hr.mono (by decide)) rfl (sa_cons (sv 1) (sa_cons se_int sa_nil))
   refine ss_one ?_
   refine s_if ?_ ?_ ?_
   ·exact st_cmp (ok_eq hr.units) (sv 5) se_int (nomark _)
   ·refine ss_cons ?_ ?_
    ·refine s_set (i:=6) ?_ ?_ ?_ ?_
     ·exact sc_q16.nd
     ·exact rfl
     ·exact Or.inl rfl
     exact se_cal C_q11 (hr.mono (by decide)) rfl (sa_cons (sv 1) (sa_cons (se_callB ok_len rfl T.b_len PySem.boot_len (sa_cons (sv 0) sa_nil)) sa_nil))
    refine ss_cons ?_ ?_
    ·exact s_asg (se_ix ok_ix (sv 0) (sv 6) (fun _ _=>rfl)) (sg_subL (sv 0) (sv 3))
    refine ss_one ?_
    exact s_asg (sv 4) (sg_subL (sv 0) (sv 6))
   refine ss_one ?_
   refine s_if ?_ ?_ ?_
   ·exact st_w (sw_and (st_cmp (ok_eq hr.units) (sv 5) se_int (nomark _)) (sw_and1 (st_cmp ok_in (se_ix ok_ix (sv 4) se_int (fun _ _=>rfl)) (se_tup (sa_cons se_str (sa_cons se_str (sa_cons se_str sa_nil)))) rfl)))
   ·refine ss_one ?_
    exact s_asg (se_op ok_plus (se_tup (sa_cons (se_ix ok_ix (se_v (sn_lst (sa_cons se_str (sa_cons se_str (sa_cons se_str sa_nil))))) (se_cal C_q11 (hr.mono (by decide)) rfl (sa_cons (sv 1) (sa_cons se_int sa_nil))) (fun _ _=>rfl)) sa_nil)) (se_sl (sv 4) (so_some se_int) so_none)) (sg_subL (sv 0) (sv 3))
   refine ss_cons ?_ ?_
   ·refine s_set (i:=7) ?_ ?_ ?_ ?_
    ·exact sc_q16.nd
    ·exact rfl
    ·exact Or.inl rfl
    exact se_op ok_plus se_int (se_cal C_q11 (hr.mono (by decide)) rfl (sa_cons (sv 1) (sa_cons (se_op ok_sub (se_callB ok_len rfl T.b_len PySem.boot_len (sa_cons (sv 4) sa_nil)) se_int) sa_nil)))
   refine ss_cons ?_ ?_
   ·refine s_set (i:=8) ?_ ?_ ?_ ?_
    ·exact sc_q16.nd
    ·exact rfl
    ·exact Or.inl rfl
    refine se_v ?_
    refine sn_lst (n:=10) ?_
    refine sa_cons ?_ ?_
    ·exact se_un ok_neg se_int
    refine sa_cons ?_ ?_
    ·exact se_op ok_plus (se_ix ok_ix (sv 4) (sv 7) (fun _ _=>rfl)) se_int
    refine sa_cons ?_ ?_
    ·exact se_op ok_sub (se_ix ok_ix (sv 4) (sv 7) (fun _ _=>rfl)) se_int
    refine sa_cons ?_ ?_
    ·exact se_int
    refine sa_cons ?_ ?_
    ·exact se_op ok_pow se_int se_int
    refine sa_cons ?_ ?_
    ·exact sv 3
    refine sa_cons ?_ ?_
    ·exact se_op ok_plus (sv 3) se_int
    refine sa_cons ?_ ?_
    ·exact se_cal C_q11 (hr.mono (by decide)) rfl (sa_cons (sv 1) (sa_cons (se_callB ok_len rfl T.b_len PySem.boot_len (sa_cons (sv 0) sa_nil)) sa_nil))
    refine sa_cons ?_ ?_
    ·exact se_un ok_neg (se_op ok_pow se_int se_int)
    refine sa_cons ?_ ?_
    ·exact se_int
    exact sa_nil
   refine ss_one ?_
   exact s_asg (se_op ok_plus (se_op ok_plus (se_sl (sv 4) so_none (so_some (sv 7))) (se_tup (sa_cons (se_ix ok_ix (sv 8) (se_cal C_q11 (hr.mono (by decide)) rfl (sa_cons (sv 1) (sa_cons se_int sa_nil))) (fun _ _=>rfl)) sa_nil))) (se_sl (sv 4) (so_some (se_op ok_plus (sv 7) se_int)) so_none)) (sg_subL (sv 0) (sv 3))
  refine ss_one ?_
  refine s_ret ?_
  exact sv 0) imp_q16
noncomputable def b_q27:DS:=(dSeq (dAsg (dOp pIx (dOp pIx (dVar 0) (dOp pIx (dVar 1) (dC (.int 0)))) (dC (.int 2))) (dName 3))
  (dSeq (dAsg (dOp pIx (dVar 2) (dC (.int 1))) (dName 4))
  (dSeq (dIfS (dNot (dTst (dChain pLe pLtI (dC (.int 0)) (dVar 4) (dCB pLen (dCons (dVar 3) dNil))))) (dRet (dC .non)) dNext)
  (dSeq (dAsg (dOp pIx (dVar 3) (dVar 4)) (dName 5))
  (dSeq (dIfS (dOr (dTst (dOp (pEq true) (dOp pIx (dVar 5) (dC (.int 0))) (dIf (dTst (dOp (pEq false) (dOp pIx (dVar 2) (dC (.int 0))) (dC (.str "step")))) (dC (.str "step")) (dC (.str "call"))))) (dTst (dOp (pEq true) (dOp pIx (dVar 5) (dC (.int 1))) (dOp pIx (dVar 1) (dC (.int 1)))))) (dRet (dC .non)) dNext)
  (dRet (dIf (dTr (dCal S_q22 (dCons (dOp pIx (dVar 5) (dGet k_MOVE_TABLES (dOp pIx (dVar 2) (dC (.int 0))))) (dCons (dOp pIx (dVar 1) (dC (.int 2))) (dCons (dOp pIx (dVar 2) (dC (.int 2))) dNil))))) (dVar 5) (dC .non))))))))
noncomputable def S_q27:DSp:=fun ds h Q=>∃ (c:D) (C:Chart) (f p d:Nat) (F:Fn) (w:Mv) (n e:Int),ds=[c,.tup [nD f,nD p,nD d],.tup [.str w.w,.int n,.int e]]∧ChD h c C∧WF C∧C[f]?=some F∧d < F.facts∧Q (oD eD (takes C f p d w n e)) h
theorem imp_q27:∀ ds h Q,S_q27 ds h Q→runD 6 b_q27 ds h Q:=by
 rintro ds h Q ⟨c,C,f,p,d,F,w,n,e,rfl,hc,wf,hf,hd,q⟩
 obtain ⟨x,e1,e2⟩:=hc.fn hf
 have hw:=wf.fn f F hf
 delta runD runX b_q27;simp only [List.map_cons,List.map_nil,List.cons_append,List.nil_append,List.length_cons,List.length_nil,List.replicate,Nat.reduceSub,Nat.reduceAdd,Nat.zero_add,Nat.sub_self]
 (try dsimp only);refine seq_intro fun N hN=>?_
 simp only [e1,VV]
 subst hN
 (try dsimp only);refine seq_intro fun N hN=>?_
 simp only [VV]
 subst hN
 (try dsimp only);refine seq_intro fun N hN=>?_
 by_cases h0:0 ≤ n
 ·by_cases h1:n < F.edges.length
  ·have hl:n.toNat < F.edges.length:=by first | decide | omega
   obtain ⟨E,hE⟩:∃ E,F.edges[n.toNat]?=some E:=⟨_,List.getElem?_eq_getElem hl⟩
   have eE:edgeAt C f n=some E:=by unfold edgeAt;rw [if_pos h0,hf];exact hE
   have ax:atI (F.edges.map eD) n=some (eD E):=by rw [atI_of h0,List.getElem?_map,hE];rfl
   obtain ⟨o1,o2,o3,o4,o5⟩:=hw.2.2.2.2.2 E (List.mem_of_getElem? hE)
   have tk:takes C f p d w n e=if (E.isStep == (w == .step))=true∧E.p=p∧br (E.tab w) d e=true then some E else none:=by unfold takes;rw [eE];rfl
   rw [tk] at q
   clear tk eE hE hl
   simp only [len_ls e2,List.length_map,h0,h1,VV]
   subst hN
   (try dsimp only);refine seq_intro fun N hN=>?_
   simp only [ix_ls e2,ax,VV]
   clear ax e1 e2 h0 h1
   subst hN
   (try dsimp only);refine seq_intro fun N hN=>?_
   obtain ⟨ep,eq,ec,ek⟩:=E
   have hpp:((ep:Int) == (p:Int))=decide (ep=p):=by first | exact beqN _ _ | exact beqP _ _ | exact beqS _ _
   cases w <;> cases ek
   case step.step t =>
    simp only [eD,Mv.w,hpp,VV]
    by_cases hp:ep=p
    ·subst hp
     simp only [VV]
     subst hN
     simp only [Mv.w,keyS,lkG,k_MOVE_TABLES,VV]
     refine ⟨t,_,_,d,e,rfl,o5,hw.2.2.2.1,hd,?_⟩
     by_cases hb:br t d e=true
     ·rw [if_pos ⟨rfl,rfl,hb⟩] at q;simp only [hb,VV];exact q
     ·rw [if_neg fun z=>hb z.2.2] at q;simp only [hb,VV];exact q
    ·rw [if_neg fun z=>hp z.2.1] at q;simp only [hp,VV];exact q
   case over.call g i b o =>
    simp only [eD,Mv.w,hpp,VV]
    by_cases hp:ep=p
    ·subst hp
     simp only [VV]
     subst hN
     obtain ⟨G,hG,t1,t2,t3⟩:=o5
     simp only [Mv.w,keyS,lkG,k_MOVE_TABLES,VV]
     refine ⟨o,_,_,d,e,rfl,t3,hw.2.2.2.1,hd,?_⟩
     by_cases hb:br o d e=true
     ·rw [if_pos ⟨rfl,rfl,hb⟩] at q;simp only [hb,VV];exact q
     ·rw [if_neg fun z=>hb z.2.2] at q;simp only [hb,VV];exact q
    ·rw [if_neg fun z=>hp z.2.1] at q;simp only [hp,VV];exact q
   case inn.call g i b o =>
    simp only [eD,Mv.w,hpp,VV]
    by_cases hp:ep=p
    ·subst hp
     simp only [VV]
     subst hN
     obtain ⟨G,hG,t1,t2,t3⟩:=o5
     simp only [Mv.w,keyS,lkG,k_MOVE_TABLES,VV]
     refine ⟨i,_,_,d,e,rfl,t1,(wf.fn g G hG).2.2.2.1,hd,?_⟩
     by_cases hb:br i d e=true
     ·rw [if_pos ⟨rfl,rfl,hb⟩] at q;simp only [hb,VV];exact q
     ·rw [if_neg fun z=>hb z.2.2] at q;simp only [hb,VV];exact q
    ·rw [if_neg fun z=>hp z.2.1] at q;simp only [hp,VV];exact q
   all_goals
    simp only [eD,Mv.w,VV]
    rw [if_neg fun z=>Bool.false_ne_true z.1] at q
    exact q
  ·have eE:takes C f p d w n e=none:=by
    unfold takes edgeAt
    rw [if_pos h0,hf]
    show (F.edges[n.toNat]?).bind _=none
    rw [List.getElem?_eq_none (by first | decide | omega)];rfl
   rw [eE] at q
   simp only [len_ls e2,List.length_map,h0,h1,VV]
   exact q
 ·have eE:takes C f p d w n e=none:=by unfold takes edgeAt;rw [if_neg h0];rfl
  rw [eE] at q
  simp only [len_ls e2,List.length_map,h0,VV]
  exact q
theorem ok_q27{f:Addr}{fd:FuncData}(F:Fun K "edge_taken" "edge_taken" s_q27 f fd)(T:Txt P w K mg)(C_q22:Cal P w K mg base 2 "brings" ["table","d","e"] (spD K 3 S_q22)):FnOk P w K mg base CX0 3 f fd ["chart","here","move"] (spD K 3 S_q27) :=
 fn_ok (k:=2) (b:=b_q27) F sc_q27 (fun cdv A outer s H E hr=>by
  refine ss_cons ?_ ?_
  ·refine s_set (i:=3) ?_ ?_ ?_ ?_
   ·exact sc_q27.nd
   ·exact rfl
   ·exact Or.inl rfl
   exact se_ix ok_ix (se_ix ok_ix (sv 0) (se_ix ok_ix (sv 1) se_int (fun _ _=>rfl)) (fun _ _=>rfl)) se_int (fun _ _=>rfl)
  refine ss_cons ?_ ?_
  ·refine s_set (i:=4) ?_ ?_ ?_ ?_
   ·exact sc_q27.nd
   ·exact rfl
   ·exact Or.inl rfl
   exact se_ix ok_ix (sv 2) se_int (fun _ _=>rfl)
  refine ss_cons ?_ ?_
  ·refine s_if ?_ ?_ ?_
   ·exact st_not (st_chain ok_le ok_ltI se_int (sv 4) (se_callB ok_len rfl T.b_len PySem.boot_len (sa_cons (sv 3) sa_nil)))
   ·refine ss_one ?_
    refine s_ret ?_
    exact se_non
   exact ss_nil
  refine ss_cons ?_ ?_
  ·refine s_set (i:=5) ?_ ?_ ?_ ?_
   ·exact sc_q27.nd
   ·exact rfl
   ·exact Or.inl rfl
   exact se_ix ok_ix (sv 3) (sv 4) (fun _ _=>rfl)
  refine ss_cons ?_ ?_
  ·refine s_if ?_ ?_ ?_
   ·exact st_w (sw_or (st_cmp (ok_ne hr.units) (se_ix ok_ix (sv 5) se_int (fun _ _=>rfl)) (se_if (st_cmp (ok_eq hr.units) (se_ix ok_ix (sv 2) se_int (fun _ _=>rfl)) se_str (nomark _)) se_str se_str) (nomark _)) (sw_or1 (st_cmp (ok_ne hr.units) (se_ix ok_ix (sv 5) se_int (fun _ _=>rfl)) (se_ix ok_ix (sv 1) se_int (fun _ _=>rfl)) (nomark _))))
   ·refine ss_one ?_
    refine s_ret ?_
    exact se_non
   exact ss_nil
  refine ss_one ?_
  refine s_ret ?_
  exact se_if (st_truth (se_cal C_q22 (hr.mono (by decide)) rfl (sa_cons (se_ix ok_ix (sv 5) (se_gget (kvs:=k_MOVE_TABLES) rfl T.c_MOVE_TABLES (se_ix ok_ix (sv 2) se_int (fun _ _=>rfl)) (fun _ _=>rfl)) (fun _ _=>rfl)) (sa_cons (se_ix ok_ix (sv 1) se_int (fun _ _=>rfl)) (sa_cons (se_ix ok_ix (sv 2) se_int (fun _ _=>rfl)) sa_nil))))) (sv 5) se_non) imp_q27
noncomputable def b_q7:DS:=(dSeq (dAsg (dTk (dCons (dOp pPlus (dOp pMod (dVar 0) (dC (.int 2147483629))) (dC (.int 7))) dNil)) (dName 4))
  (dSeq (dAsg (dOp pIx (dVar 1) (dVar 2)) (dUnp 2 (dGCons (dName 5) (dGCons (dName 6) dGNil))))
  (dSeq (dAsg (dCal S_q11 (dCons (dVar 4) (dCons (dVar 5) dNil))) (dName 7))
  (dSeq (dAsg (dCal S_q11 (dCons (dVar 4) (dCons (dVar 5) dNil))) (dName 8))
  (dSeq (dIfS (dTst (dOp pGt (dCal S_q11 (dCons (dVar 4) (dCons (dC (.int 3)) dNil))) (dC (.int 0)))) (dAsg (dCB pMin (dCons (dOp pPlus (dVar 7) (dC (.int 1))) (dCons (dOp pSub (dVar 5) (dC (.int 1))) dNil))) (dName 8)) dNext)
  (dSeq (dAsg (dCal S_q5 (dCons (dVar 4) dNil)) (dName 9))
  (dSeq (dIfS (dTst (dOp pGt (dCal S_q11 (dCons (dVar 4) (dCons (dVar 3) dNil))) (dC (.int 0)))) (dRet (dTup (dCons (dC (.str "step")) (dCons (dVar 7) (dCons (dVar 8) (dCons (dVar 9) (dCons (dCal S_q18 (dCons (dVar 4) (dCons (dVar 6) (dCons (dVar 6) dNil)))) dNil))))))) dNext)
  (dSeq (dAsg (dCal S_q11 (dCons (dVar 4) (dCons (dCB pLen (dCons (dVar 1) dNil)) dNil))) (dName 10))
  (dSeq (dAsg (dOp pIx (dOp pIx (dVar 1) (dVar 10)) (dC (.int 1))) (dName 11))
  (dSeq (dAsg (dCal S_q18 (dCons (dVar 4) (dCons (dVar 6) (dCons (dVar 11) dNil)))) (dName 12))
  (dSeq (dAsg (dCal S_q18 (dCons (dVar 4) (dCons (dVar 11) (dCons (dVar 6) dNil)))) (dName 13))
  (dSeq (dAsg (dCB pTuple (dCons (dV (dComp [none,some 6] (dISeq (dCal S_q18 (dCons (dVar 4) (dCons (dVar 6) (dCons (dVar 6) dNil))))) (dName 0) dNoIf (dOp pBand (dOp pBand (dVar 0) (dC (.int 62))) (dOp pSub (dOp pShl (dC (.int 1)) (dVar 1)) (dC (.int 1)))))) dNil)) (dName 14))
  (dRet (dTup (dCons (dC (.str "call")) (dCons (dVar 7) (dCons (dVar 8) (dCons (dVar 9) (dCons (dVar 10) (dCons (dVar 12) (dCons (dVar 13) (dCons (dVar 14) dNil))))))))))))))))))))))
noncomputable abbrev Hd:=List (Nat×Nat)
noncomputable def pD(x:Nat×Nat):D:=.tup [nD x.1,nD x.2]
noncomputable def hOk(hs:Hd):Prop:=∀ (f:Nat) (x:Nat×Nat),hs[f]?=some x→1 ≤ x.1∧x.1 ≤ 10∧1 ≤ x.2∧x.2 ≤ 6
noncomputable def eOkH(hs:Hd)(x:Nat×Nat)(e:Edge):Prop:=e.p < x.1∧e.q < x.1∧1 ≤ e.cost∧e.cost ≤ 10 ^ 18∧match e.k with
 |.step t=>tOk t x.2 x.2
 |.call g i b o=>∃ y,hs[g]?=some y∧tOk i x.2 y.2∧tOk b y.2 x.2∧tOk o x.2 x.2
noncomputable def S_q7:DSp:=fun ds h Q=>∃ (c:Int) (hd:D) (hs:Hd) (f most:Nat) (x:Nat×Nat),ds=[.int c,hd,nD f,nD most]∧lsOf h hd=some (hs.map pD)∧hs[f]?=some x∧hOk hs∧hs.length ≤ 6∧1 ≤ most∧most ≤ 10∧∀ e,eOkH hs x e→Q (eD e) h
theorem imp_q7:∀ ds h Q,S_q7 ds h Q→runD 15 b_q7 ds h (Dr h Q):=by
 rintro ds h Q ⟨c,hd,hs,f,most,x,rfl,hl,hf,ok,h6,m1,m2,q⟩
 obtain ⟨o1,o2,o3,o4⟩:=ok f x hf
 have pr:∀ o,Pre h (h ++ [o]):=fun o=>Pre.app _ _
 have fl:f < hs.length:=(List.getElem?_eq_some_iff.mp hf).1
 have sz:(hs.map pD).length=hs.length:=List.length_map ..
 delta runD runX b_q7;simp only [List.map_cons,List.map_nil,List.cons_append,List.nil_append,List.length_cons,List.length_nil,List.replicate,Nat.reduceSub,Nat.reduceAdd,Nat.zero_add,Nat.sub_self]
 (try dsimp only);refine seq_intro fun N hN=>?_
 simp only [VV]
 refine ⟨by decide,?_⟩
 subst hN
 (try dsimp only);refine seq_intro fun N hN=>?_
 have ix:∀ o,ixD (h ++ [o]) hd (nD f)=some (pD x):=fun o=>by rw [ix_ls ((pr o).ls hl),atN,List.getElem?_map,hf];rfl
 simp only [ix,pD,VV]
 refine ⟨trivial,?_⟩
 subst hN
 (try dsimp only);refine seq_intro fun N hN=>?_
 simp only [VV]
 refine ⟨h.length,_,_,rfl,get_new ..,by first | decide | omega,fun s1 p hp=>?_⟩
 rw [set_new]
 have hp':p < x.1:=by first | decide | omega
 subst hN
 (try dsimp only);refine seq_intro fun N hN=>?_
 simp only [VV]
 refine ⟨h.length,_,_,rfl,get_new ..,by first | decide | omega,fun s2 q0 hq0=>?_⟩
 rw [set_new]
 subst hN
 (try dsimp only);refine seq_intro fun N hN=>?_
 have rest:∀ (s3:Int) (q1:Nat),q1 < x.1→N [some (.int c),some hd,some (nD f),some (nD most),some (.ref h.length),some (nD x.1),some (nD x.2),some (nD p),some (nD q1),none,none,none,none,none,none] (h ++ [.lst [.int s3]]):=fun s3 q1 hq1=>by
  subst hN
  (try dsimp only);refine seq_intro fun N hN=>?_
  simp only [VV]
  refine ⟨h.length,_,rfl,get_new ..,fun s4 cst hc1 hc2=>?_⟩
  rw [set_new]
  subst hN
  (try dsimp only);refine seq_intro fun N hN=>?_
  simp only [VV]
  refine ⟨h.length,_,_,rfl,get_new ..,by first | decide | omega,fun s5 r5 hr5=>?_⟩
  rw [set_new]
  by_cases z:(0:Int) < (r5:Int)
  ·simp only [z,VV]
   refine ⟨h.length,_,x.2,x.2,rfl,get_new ..,o4,o3,o4,fun s6 t ht=>?_⟩
   rw [set_new]
   exact Dr.drop (nrD_eD ⟨p,q1,cst,.step t⟩) (q ⟨p,q1,cst,.step t⟩ ⟨hp',hq1,hc1,hc2,ht⟩)
  ·simp only [z,VV]
   subst hN
   (try dsimp only);refine seq_intro fun N hN=>?_
   simp only [len_ls ((pr _).ls hl),sz,VV]
   refine ⟨h.length,_,_,rfl,get_new ..,by first | decide | omega,fun s6 g hg=>?_⟩
   rw [set_new]
   have hgl:g < hs.length:=by first | decide | omega
   obtain ⟨y,hy⟩:∃ y,hs[g]?=some y:=⟨_,List.getElem?_eq_getElem hgl⟩
   obtain ⟨y1,y2,y3,y4⟩:=ok g y hy
   have ix2:∀ o,ixD (h ++ [o]) hd (nD g)=some (pD y):=fun o=>by rw [ix_ls ((pr o).ls hl),atN,List.getElem?_map,hy];rfl
   subst hN
   (try dsimp only);refine seq_intro fun N hN=>?_
   simp only [ix2,pD,VV]
   subst hN
   (try dsimp only);refine seq_intro fun N hN=>?_
   simp only [VV]
   refine ⟨h.length,_,x.2,y.2,rfl,get_new ..,o4,y3,y4,fun s7 ti hti=>?_⟩
   rw [set_new]
   subst hN
   (try dsimp only);refine seq_intro fun N hN=>?_
   simp only [VV]
   refine ⟨h.length,_,y.2,x.2,rfl,get_new ..,y4,o3,o4,fun s8 tb htb=>?_⟩
   rw [set_new]
   subst hN
   (try dsimp only);refine seq_intro fun N hN=>?_
   simp only [VV]
   refine ⟨h.length,_,x.2,x.2,rfl,get_new ..,o4,o3,o4,fun s9 to hto=>?_⟩
   rw [set_new]
   simp only [tD,VV]
   refine ⟨by rw [List.length_map,hto.1];omega,?_⟩
   refine comp1n (fun mk=>nD (mk &&& 62 &&& (2 ^ x.2 - 1))) Src.ok_nil none (fun mk hmk K k=>?_) ?_
   ·simp only [VV]
    refine ⟨⟨by first | decide | omega,by first | decide | omega,by decide⟩,?_⟩
    have e62:(62:Int)=((62:Nat):Int):=rfl
    have e2:((2 ^ x.2:Nat):Int) - 1=((2 ^ x.2 - 1:Nat):Int):=by have:=Nat.two_pow_pos x.2;omega
    rw [shl1,e62,band_nat,e2,band_nat]
    exact k
   ·subst hN
    simp only [VV]
    have ho:tOk (to.map fun mk=>mk &&& 62 &&& (2 ^ x.2 - 1)) x.2 x.2:=by
     refine ⟨by rw [List.length_map];exact hto.1,fun z hz=>?_⟩
     obtain ⟨mk,hmk,rfl⟩:=List.mem_map.mp hz
     have h1:=hto.2 mk hmk
     have h2:mk &&& 62 &&& (2 ^ x.2 - 1) ≤ mk &&& 62:=Nat.and_le_left
     have h3:mk &&& 62 ≤ mk:=Nat.and_le_left
     omega
    have:=q ⟨p,q1,cst,.call g ti tb (to.map fun mk=>mk &&& 62 &&& (2 ^ x.2 - 1))⟩ ⟨hp',hq1,hc1,hc2,y,hy,hti,htb,ho⟩
    have e9:eD ⟨p,q1,cst,.call g ti tb (to.map fun mk=>mk &&& 62 &&& (2 ^ x.2 - 1))⟩ = .tup [.str "call",nD p,nD q1,nD cst,nD g,tD ti,tD tb,.tup (to.map fun mk=>nD (mk &&& 62 &&& (2 ^ x.2 - 1)))]:=by
     show D.tup [.str "call",nD p,nD q1,nD cst,nD g,tD ti,tD tb,.tup ((to.map fun mk=>mk &&& 62 &&& (2 ^ x.2 - 1)).map nD)]=_
     rw [List.map_map];rfl
    have nr:=nrD_eD ⟨p,q1,cst,.call g ti tb (to.map fun mk=>mk &&& 62 &&& (2 ^ x.2 - 1))⟩
    rw [e9] at this nr
    exact Dr.drop nr this
 simp only [VV]
 refine ⟨h.length,_,_,rfl,get_new ..,by first | decide | omega,fun s3 r3 hr3=>?_⟩
 rw [set_new]
 by_cases z:(0:Int) < (r3:Int)
 ·simp only [z,VV]
  by_cases z2:(x.1:Int) - 1 < (p:Int) + 1
  ·simp only [z2,VV]
   rw [show (x.1:Int) - 1=((x.1 - 1:Nat):Int) by first | decide | omega]
   exact rest s3 _ (by first | decide | omega)
  ·simp only [z2,VV]
   rw [show (p:Int) + 1=((p + 1:Nat):Int) by first | decide | omega]
   exact rest s3 _ (by first | decide | omega)
 ·simp only [z,VV]
  exact rest s3 q0 (by first | decide | omega)
theorem ok_q7{f:Addr}{fd:FuncData}(F:Fun K "_law_edge" "_law_edge" s_q7 f fd)(T:Txt P w K mg)(C_q11:Cal P w K mg base 1 "_law_next" ["_law_state","_law_many"] (spD K 2 S_q11))(C_q5:Cal P w K mg base 2 "_law_cost" ["_law_state"] (spD K 1 S_q5))(C_q18:Cal P w K mg base 2 "_law_table" ["_law_state","_law_many","_law_facts_here"] (spD K 3 S_q18)):FnOk P w K mg base CX0 3 f fd ["_law_cell_here","_law_heads","_law_f","_law_most"] (spD K 4 S_q7) :=
 fn_okD (k:=2) (b:=b_q7) F sc_q7 (fun cdv A outer s H E hr=>by
  refine ss_cons ?_ ?_
  ·refine s_set (i:=4) ?_ ?_ ?_ ?_
   ·exact sc_q7.nd
   ·exact rfl
   ·exact Or.inl rfl
   exact se_t (sn_lst (sa_cons (se_op ok_plus (se_op ok_mod (sv 0) se_int) se_int) sa_nil))
  refine ss_cons ?_ ?_
  ·exact s_asg (se_ix ok_ix (sv 1) (sv 2) (fun _ _=>rfl)) (sg_tup rfl (sgs_cons (sg_name (i:=5) sc_q7.nd rfl (Or.inl rfl)) (sgs_cons (sg_name (i:=6) sc_q7.nd rfl (Or.inr rfl)) sgs_nil)))
  refine ss_cons ?_ ?_
  ·refine s_set (i:=7) ?_ ?_ ?_ ?_
   ·exact sc_q7.nd
   ·exact rfl
   ·exact Or.inl rfl
   exact se_cal C_q11 (hr.mono (by decide)) rfl (sa_cons (sv 4) (sa_cons (sv 5) sa_nil))
  refine ss_cons ?_ ?_
  ·refine s_set (i:=8) ?_ ?_ ?_ ?_
   ·exact sc_q7.nd
   ·exact rfl
   ·exact Or.inl rfl
   exact se_cal C_q11 (hr.mono (by decide)) rfl (sa_cons (sv 4) (sa_cons (sv 5) sa_nil))
  refine ss_cons ?_ ?_
  ·refine s_if ?_ ?_ ?_
   ·exact st_cmp ok_gt (se_cal C_q11 (hr.mono (by decide)) rfl (sa_cons (sv 4) (sa_cons se_int sa_nil))) se_int (nomark _)
   ·refine ss_one ?_
    refine s_set (i:=8) ?_ ?_ ?_ ?_
    ·exact sc_q7.nd
    ·exact rfl
    ·exact Or.inl rfl
    exact se_callB (ok_min rfl) rfl T.b_min PyProof.Rows.boot_min (sa_cons (se_op ok_plus (sv 7) se_int) (sa_cons (se_op ok_sub (sv 5) se_int) sa_nil))
   exact ss_nil
  refine ss_cons ?_ ?_
  ·refine s_set (i:=9) ?_ ?_ ?_ ?_
   ·exact sc_q7.nd
   ·exact rfl
   ·exact Or.inl rfl
   exact se_cal C_q5 (hr.mono (by decide)) rfl (sa_cons (sv 4) sa_nil)
  refine ss_cons ?_ ?_
  ·refine s_if ?_ ?_ ?_
   ·exact st_cmp ok_gt (se_cal C_q11 (hr.mono (by decide)) rfl (sa_cons (sv 4) (sa_cons (sv 3) sa_nil))) se_int (nomark _)
   ·refine ss_one ?_
    refine s_ret ?_
    refine se_tup (n:=5) ?_
    refine sa_cons ?_ ?_
    ·exact se_str
    refine sa_cons ?_ ?_
    ·exact sv 7
    refine sa_cons ?_ ?_
    ·exact sv 8
    refine sa_cons ?_ ?_
    ·exact sv 9
    refine sa_cons ?_ ?_
    ·exact se_cal C_q18 (hr.mono (by decide)) rfl (sa_cons (sv 4) (sa_cons (sv 6) (sa_cons (sv 6) sa_nil)))
    exact sa_nil
   exact ss_nil
  refine ss_cons ?_ ?_
  ·refine s_set (i:=10) ?_ ?_ ?_ ?_
   ·exact sc_q7.nd
   ·exact rfl
   ·exact Or.inl rfl
   exact se_cal C_q11 (hr.mono (by decide)) rfl (sa_cons (sv 4) (sa_cons (se_callB ok_len rfl T.b_len PySem.boot_len (sa_cons (sv 1) sa_nil)) sa_nil))
  refine ss_cons ?_ ?_
  ·refine s_set (i:=11) ?_ ?_ ?_ ?_
   ·exact sc_q7.nd
   ·exact rfl
   ·exact Or.inl rfl
   exact se_ix ok_ix (se_ix ok_ix (sv 1) (sv 10) (fun _ _=>rfl)) se_int (fun _ _=>rfl)
  refine ss_cons ?_ ?_
  ·refine s_set (i:=12) ?_ ?_ ?_ ?_
   ·exact sc_q7.nd
   ·exact rfl
   ·exact Or.inl rfl
   exact se_cal C_q18 (hr.mono (by decide)) rfl (sa_cons (sv 4) (sa_cons (sv 6) (sa_cons (sv 11) sa_nil)))
  refine ss_cons ?_ ?_
  ·refine s_set (i:=13) ?_ ?_ ?_ ?_
   ·exact sc_q7.nd
   ·exact rfl
   ·exact Or.inl rfl
   exact se_cal C_q18 (hr.mono (by decide)) rfl (sa_cons (sv 4) (sa_cons (sv 11) (sa_cons (sv 6) sa_nil)))
  refine ss_cons ?_ ?_
  ·refine s_set (i:=14) ?_ ?_ ?_ ?_
   ·exact sc_q7.nd
   ·exact rfl
   ·exact Or.inl rfl
   exact se_callTy ok_tuple rfl T.b_tuple PyProof.Rows.boot_tuple (sa_cons (se_v (sn_comp rfl (N':= ["_law_mask","_law_facts_here"]) (js:=[none,some 6]) ⟨rfl,by decide +kernel,rfl,rfl,rfl⟩ (si_seq (se_cal C_q18 (hr.mono (by decide)) rfl (sa_cons (sv 4) (sa_cons (sv 6) (sa_cons (sv 6) sa_nil))))) (fun s0 H0 fp=>⟨(sg_name (i:=0) (show (["_law_mask","_law_facts_here"]:List Str).Nodup by decide +kernel) rfl (Or.inl rfl)),sf_nil,(se_op ok_band (se_op ok_band (sv 0) se_int) (se_op ok_sub (se_op ok_shl se_int (sv 1)) se_int))⟩))) sa_nil)
  refine ss_one ?_
  refine s_ret ?_
  refine se_tup (n:=8) ?_
  refine sa_cons ?_ ?_
  ·exact se_str
  refine sa_cons ?_ ?_
  ·exact sv 7
  refine sa_cons ?_ ?_
  ·exact sv 8
  refine sa_cons ?_ ?_
  ·exact sv 9
  refine sa_cons ?_ ?_
  ·exact sv 10
  refine sa_cons ?_ ?_
  ·exact sv 12
  refine sa_cons ?_ ?_
  ·exact sv 13
  refine sa_cons ?_ ?_
  ·exact sv 14
  exact sa_nil) imp_q7
noncomputable def b_q3:DS:=(dSeq (dIfS (dTst (dOp (pEq false) (dOp pIx (dVar 3) (dC (.int 0))) (dC (.str "begin")))) (dSeq (dIfS (dAnd (dTst (dChain pLe pLtI (dC (.int 0)) (dOp pIx (dVar 3) (dC (.int 1))) (dCB pLen (dCons (dVar 0) dNil)))) (dTst (dChain pLe pLtI (dC (.int 0)) (dOp pIx (dVar 3) (dC (.int 2))) (dOp pIx (dOp pIx (dVar 0) (dOp pIx (dVar 3) (dC (.int 1)))) (dC (.int 1)))))) (dRet (dTup (dCons (dC (.str "within")) (dCons (dOp pIx (dVar 3) (dC (.int 1))) (dCons (dOp pIx (dVar 3) (dC (.int 2))) (dCons (dC (.int 0)) (dCons (dOp pIx (dVar 3) (dC (.int 2))) (dCons (dC (.int 0)) dNil)))))))) dNext)
  (dRet (dC .non))) dNext)
  (dSeq (dIfS (dTst (dOp (pEq false) (dOp pIx (dVar 3) (dC (.int 0))) (dC (.str "start")))) (dRet (dIf (dAnd (dTst (dChain pLe pLtI (dC (.int 0)) (dOp pIx (dVar 3) (dC (.int 1))) (dC (.int 6)))) (dTst (dOp (pEq false) (dOp pBand (dOp pShr (dVar 1) (dOp pIx (dVar 3) (dC (.int 1)))) (dC (.int 1))) (dC (.int 1))))) (dTup (dCons (dC (.str "at")) (dCons (dC (.int 0)) (dCons (dC (.int 0)) (dCons (dOp pIx (dVar 3) (dC (.int 1))) (dCons (dC (.int 0)) dNil)))))) (dC .non))) dNext)
  (dSeq (dIfS (dNot (dTst (dChain pLe pLtI (dC (.int 0)) (dOp pIx (dVar 3) (dC (.int 1))) (dCB pLen (dCons (dVar 2) dNil))))) (dRet (dC .non)) dNext)
  (dSeq (dAsg (dOp pIx (dVar 2) (dOp pIx (dVar 3) (dC (.int 1)))) (dName 4))
  (dSeq (dIfS (dTst (dOp (pEq true) (dOp pIx (dVar 4) (dC (.int 0))) (dOp pIx (dV (dCons (dC (.str "within")) (dCons (dC (.str "at")) dNil))) (dCB pInt (dCons (dOp (pIn false) (dOp pIx (dVar 3) (dC (.int 0))) (dTup (dCons (dC (.str "in")) (dCons (dC (.str "along")) dNil)))) dNil))))) (dRet (dC .non)) dNext)
  (dSeq (dIfS (dTst (dOp (pIn false) (dOp pIx (dVar 3) (dC (.int 0))) (dTup (dCons (dC (.str "step")) (dCons (dC (.str "over")) (dCons (dC (.str "in")) dNil)))))) (dRet (dCal S_q12 (dCons (dVar 0) (dCons (dVar 4) (dCons (dOp pIx (dVar 3) (dC (.int 0))) (dCons (dOp pIx (dVar 3) (dC (.int 2))) (dCons (dOp pIx (dVar 3) (dC (.int 3))) dNil))))))) dNext)
  (dSeq (dAsg (dIf (dTst (dOp (pEq false) (dOp pIx (dVar 3) (dC (.int 0))) (dC (.str "along")))) (dOp pIx (dVar 3) (dC (.int 2))) (dOp pIx (dVar 3) (dC (.int 3)))) (dName 5))
  (dSeq (dIfS (dOr (dNot (dTst (dChain pLe pLtI (dC (.int 0)) (dVar 5) (dCB pLen (dCons (dVar 2) dNil))))) (dTst (dOp (pEq true) (dOp pIx (dOp pIx (dVar 2) (dVar 5)) (dC (.int 0))) (dC (.str "within"))))) (dRet (dC .non)) dNext)
  (dSeq (dIfS (dTst (dOp (pEq false) (dOp pIx (dVar 3) (dC (.int 0))) (dC (.str "short")))) (dRet (dCal S_q15 (dCons (dVar 0) (dCons (dVar 4) (dCons (dOp pIx (dVar 3) (dC (.int 2))) (dCons (dOp pIx (dVar 2) (dVar 5)) (dCons (dOp pIx (dVar 3) (dC (.int 4))) dNil))))))) dNext)
  (dSeq (dIfS (dOr (dTst (dOp (pEq true) (dOp pIx (dVar 4) (dC (.int 2))) (dC (.int 0)))) (dOr (dTst (dOp (pEq true) (dOp pIx (dOp pIx (dVar 2) (dVar 5)) (dC (.int 1))) (dOp pIx (dVar 4) (dC (.int 1))))) (dTst (dOp (pEq true) (dOp pIx (dOp pIx (dVar 2) (dVar 5)) (dC (.int 2))) (dOp pIx (dVar 4) (dC (.int 3))))))) (dRet (dC .non)) dNext)
  (dRet (dTup (dCons (dC (.str "at")) (dCons (dOp pIx (dVar 4) (dC (.int 1))) (dCons (dOp pIx (dOp pIx (dVar 2) (dVar 5)) (dC (.int 3))) (dCons (dOp pIx (dOp pIx (dVar 2) (dVar 5)) (dC (.int 4))) (dCons (dOp pPlus (dOp pIx (dVar 4) (dC (.int 4))) (dOp pIx (dOp pIx (dVar 2) (dVar 5)) (dC (.int 5)))) dNil)))))))))))))))))
noncomputable def S_q3:DSp:=fun ds h Q=>∃ (c a:D) (C:Chart) (cs:List Clm) (st:Nat) (F0:Fn) (r:Row),ds=[c,nD st,a,rD r]∧ChD h c C∧WF C∧lsOf h a=some (cs.map clD)∧(∀ c ∈ cs,clOk C c)∧C[0]?=some F0∧st < 2 ^ F0.facts∧Q (oD clD (claimOf C st cs r)) h
theorem ahead_cases(cs:List Clm)(k:Int):(∃ c,ahead cs k=some c∧0 ≤ k∧k < cs.length∧atI (cs.map clD) k=some (clD c))∨(ahead cs k=none∧¬ (0 ≤ k∧k < cs.length)):=by
 unfold ahead
 by_cases h0:0 ≤ k
 ·by_cases h1:k < cs.length
  ·have hl:k.toNat < cs.length:=by first | decide | omega
   refine .inl ⟨cs[k.toNat],by rw [if_pos h0,List.getElem?_eq_getElem hl],h0,h1,?_⟩
   rw [atI_of h0,List.getElem?_map,List.getElem?_eq_getElem hl];rfl
  ·exact .inr ⟨by rw [if_pos h0,List.getElem?_eq_none (by first | decide | omega)],fun z=>h1 z.2⟩
 ·exact .inr ⟨if_neg h0,fun z=>h0 z.1⟩
theorem imp_q3:∀ ds h Q,S_q3 ds h Q→runD 6 b_q3 ds h Q:=by
 rintro ds h Q ⟨c,a,C,cs,st,F0,r,rfl,hc,wf,ha,ok,hF0,hst,q⟩
 have nn:∀ (k:Int) {A B:Prop},¬ (0 ≤ k∧k < (cs.length:Int))→A→(if decide (0 ≤ k)=true then (if (!decide (k < (cs.length:Int)))=true then A else B) else A):=fun k A B hk kk=>by
  by_cases h0:0 ≤ k
  ·by_cases h1:k < (cs.length:Int)
   ·exact absurd ⟨h0,h1⟩ hk
   ·simp only [h0,h1,decide_true,decide_false,if_true,Bool.not_false];exact kk
  ·simp only [h0,decide_false,Bool.false_eq_true,if_false];exact kk
 cases r with
 |begin f d =>
  delta runD runX b_q3;simp only [List.map_cons,List.map_nil,List.cons_append,List.nil_append,List.length_cons,List.length_nil,List.replicate,Nat.reduceSub,Nat.reduceAdd,Nat.zero_add,Nat.sub_self]
  (try dsimp only);refine seq_intro fun N hN=>?_
  simp only [rD,VV]
  subst hN
  (try dsimp only);refine seq_intro fun N hN=>?_
  have non:claimOf C st cs (.begin f d)=none→N [some c,some (nD st),some a,some (D.tup [D.str (Str.ofString "begin"),D.int f,D.int d]),none,none] h:=fun z=>by subst hN;rw [z] at q;exact q
  have eq:claimOf C st cs (.begin f d)=(if 0 ≤ f∧0 ≤ d then (C[f.toNat]?).bind fun F=>if d < F.facts then some (Clm.within f.toNat d.toNat 0 d.toNat 0) else none else none):=rfl
  by_cases h0:0 ≤ f
  ·by_cases h1:f < C.length
   ·have hl:f.toNat < C.length:=by first | decide | omega
    obtain ⟨F,hF⟩:∃ E,C[f.toNat]?=some E:=⟨_,List.getElem?_eq_getElem hl⟩
    obtain ⟨x,e1,e2⟩:=hc.fn hF
    have e1:ixD h c (.int f)=some (.tup [nD F.places,nD F.facts,x]):=by
     rw [show nD f.toNat = .int f from congrArg D.int (by first | decide | omega)] at e1;exact e1
    by_cases h2:0 ≤ d
    ·by_cases h3:d < F.facts
     ·simp only [hc.len,h0,h1,e1,h2,h3,VV]
      rw [eq,if_pos ⟨h0,h2⟩,hF] at q
      have q:Q (oD clD (if d < F.facts then some (Clm.within f.toNat d.toNat 0 d.toNat 0) else none)) h:=q
      rw [if_pos h3] at q
      have q:Q (.tup [.str "within",.int ((f.toNat:Nat):Int),.int ((d.toNat:Nat):Int),nD 0,.int ((d.toNat:Nat):Int),nD 0]) h:=q
      rw [Int.toNat_of_nonneg h0,Int.toNat_of_nonneg h2] at q
      exact q
     ·simp only [hc.len,h0,h1,e1,h2,h3,VV]
      refine non ?_
      rw [eq,if_pos ⟨h0,h2⟩,hF];exact if_neg h3
    ·simp only [hc.len,h0,h1,e1,h2,VV]
     exact non (if_neg (fun z=>h2 z.2))
   ·simp only [hc.len,h0,h1,VV]
    refine non ?_
    rw [eq,List.getElem?_eq_none (by first | decide | omega)];split <;> rfl
  ·simp only [h0,VV]
   exact non (if_neg (fun z=>h0 z.1))
 |start d =>
  delta runD runX b_q3;simp only [List.map_cons,List.map_nil,List.cons_append,List.nil_append,List.length_cons,List.length_nil,List.replicate,Nat.reduceSub,Nat.reduceAdd,Nat.zero_add,Nat.sub_self]
  (try dsimp only);refine seq_intro fun N hN=>?_
  simp only [rD,VV]
  subst hN
  (try dsimp only);refine seq_intro fun N hN=>?_
  simp only [VV]
  have eq:claimOf C st cs (.start d)=if 0 ≤ d then (if d < F0.facts∧st.testBit d.toNat=true then some (.at 0 0 d.toNat 0) else none) else none:=by
   show (if 0 ≤ d then (C[0]?).bind fun F=>if d < F.facts∧st.testBit d.toNat=true then some (Clm.at 0 0 d.toNat 0) else none else none)=_
   rw [hF0];rfl
  rw [eq] at q
  have f6:=(wf.fn 0 F0 hF0).2.2.2.1
  by_cases h0:0 ≤ d
  ·rw [if_pos h0] at q
   by_cases h1:d < 6
   ·simp only [h0,h1,VV]
    refine ⟨trivial,?_⟩
    have:=bitE st d.toNat
    rw [this]
    refine iteB (fun z=>?_) (fun z=>?_)
    ·have hd:d < F0.facts:=by
      rcases Nat.lt_or_ge d.toNat F0.facts with y | y
      ·omega
      ·rw [Nat.testBit_lt_two_pow (Nat.lt_of_lt_of_le hst (Nat.pow_le_pow_right (by decide) y))] at z;cases z
     rw [if_pos ⟨hd,z⟩] at q
     have q:Q (.tup [.str "at",nD 0,nD 0,.int ((d.toNat:Nat):Int),nD 0]) h:=q
     rw [Int.toNat_of_nonneg h0] at q
     exact q
    ·rw [if_neg (fun y=>by rw [z] at y;exact Bool.false_ne_true y.2)] at q
     exact q
   ·simp only [h0,h1,VV]
    rw [if_neg (fun y=>by first | decide | omega)] at q
    exact q
  ·rw [if_neg h0] at q
   simp only [h0,VV]
   exact q
 |mv w k n e =>
  have eq:claimOf C st cs (.mv w k n e)=(ahead cs k).bind fun one=>onwardC C w one n e:=by
   cases w with
   |inn =>
    show (match ahead cs k with | some (.at f p d c)=>_ | _=>none)=_
    cases ahead cs k with
    |none=>rfl
    |some x=>cases x <;> rfl
   |_ =>
    show (match ahead cs k with | some (.within f a p d c)=>_ | _=>none)=_
    cases ahead cs k with
    |none=>rfl
    |some x=>cases x <;> rfl
  rw [eq] at q
  have sb:(w.w == Str.ofString "begin")=false:=by cases w with | step=>exact sq_step_begin | over=>exact sq_over_begin | inn=>exact sq_in_begin
  have ss:(w.w == Str.ofString "start")=false:=by cases w with | step=>exact sq_step_start | over=>exact sq_over_start | inn=>exact sq_in_start
  have sk:PyData.strOk w.w=true:=by cases w with | step=>exact sk_step | over=>exact sk_over | inn=>exact sk_in
  delta runD runX b_q3;simp only [List.map_cons,List.map_nil,List.cons_append,List.nil_append,List.length_cons,List.length_nil,List.replicate,Nat.reduceSub,Nat.reduceAdd,Nat.zero_add,Nat.sub_self]
  (try dsimp only);refine seq_intro fun N hN=>?_
  simp only [rD,sb,sk,VV]
  subst hN
  (try dsimp only);refine seq_intro fun N hN=>?_
  simp only [ss,sk,VV]
  subst hN
  (try dsimp only);refine seq_intro fun N hN=>?_
  rcases ahead_cases cs k with ⟨one,ho,h0,h1,hx⟩ | ⟨ho,hk⟩
  ·rw [ho] at q
   have q:Q (oD clD (onwardC C w one n e)) h:=q
   have okc:=ahead_ok ok ho
   have fin:(w = .inn ↔ ∃ f p d x,one = .at f p d x)→S_q12 [c,clD one,.str w.w,.int n,.int e] h Q:=fun hw=>⟨c,C,w,one,n,e,rfl,hc,wf,okc,hw,q⟩
   simp only [len_ls ha,List.length_map,h0,h1,VV]
   subst hN
   (try dsimp only);refine seq_intro fun N hN=>?_
   simp only [ix_ls ha,hx,VV]
   subst hN
   (try dsimp only);refine seq_intro fun N hN=>?_
   cases w <;> cases one
   all_goals
    simp only [Mv.w,clD,inF_2,inF_3,eqF_s,or_t,or_f,VV]
    try refine ⟨rfl,?_⟩
    try simp only [VV]
   case step.within =>
    subst hN
    (try dsimp only);refine seq_intro fun N hN=>?_
    simp only [clD,inF_2,inF_3,eqF_s,or_t,or_f,VV]
    refine ⟨rfl,fin ⟨(fun z=>nomatch z),(fun ⟨_,_,_,_,z⟩=>nomatch z)⟩⟩
   case over.within =>
    subst hN
    (try dsimp only);refine seq_intro fun N hN=>?_
    simp only [clD,inF_2,inF_3,eqF_s,or_t,or_f,VV]
    refine ⟨rfl,fin ⟨(fun z=>nomatch z),(fun ⟨_,_,_,_,z⟩=>nomatch z)⟩⟩
   case inn.at =>
    subst hN
    (try dsimp only);refine seq_intro fun N hN=>?_
    simp only [clD,inF_2,inF_3,eqF_s,or_t,or_f,VV]
    refine ⟨rfl,fin ⟨fun _=>⟨_,_,_,_,rfl⟩,fun _=>rfl⟩⟩
   all_goals exact q
  ·rw [ho] at q
   simp only [len_ls ha,List.length_map,VV]
   exact nn k hk q
 |short k n j e =>
  delta runD runX b_q3;simp only [List.map_cons,List.map_nil,List.cons_append,List.nil_append,List.length_cons,List.length_nil,List.replicate,Nat.reduceSub,Nat.reduceAdd,Nat.zero_add,Nat.sub_self]
  (try dsimp only);refine seq_intro fun N hN=>?_
  simp only [rD,VV]
  subst hN
  (try dsimp only);refine seq_intro fun N hN=>?_
  simp only [VV]
  subst hN
  (try dsimp only);refine seq_intro fun N hN=>?_
  have eq:claimOf C st cs (.short k n j e)=match ahead cs k,ahead cs j with | some (.within f a p d c),some (.within g b x y c')=>shortC C f a p d c g b x y c' n e | _,_=>none:=rfl
  rcases ahead_cases cs k with ⟨one,ho,h0,h1,hx⟩ | ⟨ho,hk⟩
  ·simp only [len_ls ha,List.length_map,h0,h1,VV]
   have okc:=ahead_ok ok ho
   subst hN
   (try dsimp only);refine seq_intro fun N hN=>?_
   simp only [ix_ls ha,hx,VV]
   subst hN
   (try dsimp only);refine seq_intro fun N hN=>?_
   cases one with
   |«at» f p d x =>
    simp only [clD,inF_2,inF_3,eqF_s,or_t,or_f,VV]
    refine ⟨rfl,?_⟩
    rw [eq,ho] at q
    exact q
   |within f a p d x =>
    simp only [clD,inF_2,inF_3,eqF_s,or_t,or_f,VV]
    refine ⟨rfl,?_⟩
    subst hN
    (try dsimp only);refine seq_intro fun N hN=>?_
    simp only [inF_2,inF_3,eqF_s,or_t,or_f,VV]
    refine ⟨rfl,?_⟩
    subst hN
    (try dsimp only);refine seq_intro fun N hN=>?_
    simp only [VV]
    subst hN
    (try dsimp only);refine seq_intro fun N hN=>?_
    rcases ahead_cases cs j with ⟨two,ho2,h2,h3,hx2⟩ | ⟨ho2,hk2⟩
    ·have okc2:=ahead_ok ok ho2
     cases two with
     |«at» f p d x =>
      simp only [len_ls ha,List.length_map,h2,h3,ix_ls ha,hx2,clD,VV]
      rw [eq,ho,ho2] at q
      exact q
     |within g b px y x' =>
      simp only [len_ls ha,List.length_map,h2,h3,ix_ls ha,hx2,clD,VV]
      subst hN
      (try dsimp only);refine seq_intro fun N hN=>?_
      simp only [ix_ls ha,hx2,clD,VV]
      refine ⟨c,C,f,a,p,d,x,g,b,px,y,x',n,e,rfl,hc,wf,okc,okc2,?_⟩
      rw [eq,ho,ho2] at q
      exact q
    ·simp only [len_ls ha,List.length_map,VV]
     rw [eq,ho,ho2] at q
     have q:Q .non h:=q
     by_cases g0:0 ≤ j
     ·by_cases g1:j < (cs.length:Int)
      ·exact absurd ⟨g0,g1⟩ hk2
      ·simp only [g0,g1,VV];exact q
     ·simp only [g0,VV];exact q
  ·simp only [len_ls ha,List.length_map,VV]
   rw [eq,ho] at q
   exact nn k hk q
 |along k j =>
  delta runD runX b_q3;simp only [List.map_cons,List.map_nil,List.cons_append,List.nil_append,List.length_cons,List.length_nil,List.replicate,Nat.reduceSub,Nat.reduceAdd,Nat.zero_add,Nat.sub_self]
  (try dsimp only);refine seq_intro fun N hN=>?_
  simp only [rD,VV]
  subst hN
  (try dsimp only);refine seq_intro fun N hN=>?_
  simp only [VV]
  subst hN
  (try dsimp only);refine seq_intro fun N hN=>?_
  have eq:claimOf C st cs (.along k j)=match ahead cs k,ahead cs j with | some (.at f p a c),some (.within g b q d c')=>if p=0∧g=f∧b=a then some (Clm.at f q d (c + c')) else none | _,_=>none:=rfl
  rcases ahead_cases cs k with ⟨one,ho,h0,h1,hx⟩ | ⟨ho,hk⟩
  ·simp only [len_ls ha,List.length_map,h0,h1,VV]
   subst hN
   (try dsimp only);refine seq_intro fun N hN=>?_
   simp only [ix_ls ha,hx,VV]
   subst hN
   (try dsimp only);refine seq_intro fun N hN=>?_
   cases one with
   |within f a p d x =>
    simp only [clD,inF_2,inF_3,eqF_s,or_t,or_f,VV]
    refine ⟨rfl,?_⟩
    rw [eq,ho] at q
    exact q
   |«at» f p d x =>
    simp only [clD,inF_2,inF_3,eqF_s,or_t,or_f,VV]
    refine ⟨rfl,?_⟩
    subst hN
    (try dsimp only);refine seq_intro fun N hN=>?_
    simp only [inF_2,inF_3,eqF_s,or_t,or_f,VV]
    refine ⟨rfl,?_⟩
    subst hN
    (try dsimp only);refine seq_intro fun N hN=>?_
    simp only [VV]
    subst hN
    (try dsimp only);refine seq_intro fun N hN=>?_
    rcases ahead_cases cs j with ⟨two,ho2,h2,h3,hx2⟩ | ⟨ho2,hk2⟩
    ·cases two with
     |«at» f p d x =>
      simp only [len_ls ha,List.length_map,h2,h3,ix_ls ha,hx2,clD,VV]
      rw [eq,ho,ho2] at q
      exact q
     |within g b px y x' =>
      simp only [len_ls ha,List.length_map,h2,h3,ix_ls ha,hx2,clD,VV]
      subst hN
      (try dsimp only);refine seq_intro fun N hN=>?_
      simp only [VV]
      subst hN
      (try dsimp only);refine seq_intro fun N hN=>?_
      rw [eq,ho,ho2] at q
      have q:Q (oD clD (if p=0∧g=f∧b=d then some (.at f px y (x + x')) else none)) h:=q
      have e1:((p:Int) == 0)=decide (p=0):=by rw [Bool.eq_iff_iff];simp
      have e2:((g:Int) == (f:Int))=decide (g=f):=by first | exact beqN _ _ | exact beqP _ _ | exact beqS _ _
      have e3:((b:Int) == (d:Int))=decide (b=d):=by first | exact beqN _ _ | exact beqP _ _ | exact beqS _ _
      simp only [ix_ls ha,hx2,clD,e1,e2,e3,VV]
      by_cases c1:p=0
      ·by_cases c2:g=f
       ·by_cases c3:b=d
        ·rw [if_pos ⟨c1,c2,c3⟩] at q
         simp only [c1,c2,c3,VV]
         subst hN
         simp only [ix_ls ha,hx2,clD,VV]
         have q:Q (.tup [.str "at",nD f,nD px,nD y,.int ((x + x':Nat):Int)]) h:=q
         rw [Int.natCast_add] at q
         exact q
        ·rw [if_neg (fun z=>c3 z.2.2)] at q;simp only [c1,c2,c3,VV];exact q
       ·rw [if_neg (fun z=>c2 z.2.1)] at q;simp only [c1,c2,VV];exact q
      ·rw [if_neg (fun z=>c1 z.1)] at q;simp only [c1,VV];exact q
    ·simp only [len_ls ha,List.length_map,VV]
     rw [eq,ho,ho2] at q
     have q:Q .non h:=q
     by_cases g0:0 ≤ j
     ·by_cases g1:j < (cs.length:Int)
      ·exact absurd ⟨g0,g1⟩ hk2
      ·simp only [g0,g1,VV];exact q
     ·simp only [g0,VV];exact q
  ·simp only [len_ls ha,List.length_map,VV]
   rw [eq,ho] at q
   exact nn k hk q
theorem ok_q3{f:Addr}{fd:FuncData}(F:Fun K "_law_claim" "_law_claim" s_q3 f fd)(T:Txt P w K mg)(C_q12:Cal P w K mg base 2 "_law_onward" ["_law_chart_here","_law_one","_law_sort","_law_n","_law_e"] (spD K 5 S_q12))(C_q15:Cal P w K mg base 2 "_law_short" ["_law_chart_here","_law_one","_law_n","_law_other","_law_e"] (spD K 5 S_q15)):FnOk P w K mg base CX0 3 f fd ["_law_chart_here","_law_start_here","_law_done","_law_row"] (spD K 4 S_q3) :=
 fn_ok (k:=2) (b:=b_q3) F sc_q3 (fun cdv A outer s H E hr=>by
  refine ss_cons ?_ ?_
  ·refine s_if ?_ ?_ ?_
   ·exact st_cmp (ok_eq hr.units) (se_ix ok_ix (sv 3) se_int (fun _ _=>rfl)) se_str (nomark _)
   ·refine ss_cons ?_ ?_
    ·refine s_if ?_ ?_ ?_
     ·exact st_w (sw_and (st_chain ok_le ok_ltI se_int (se_ix ok_ix (sv 3) se_int (fun _ _=>rfl)) (se_callB ok_len rfl T.b_len PySem.boot_len (sa_cons (sv 0) sa_nil))) (sw_and1 (st_chain ok_le ok_ltI se_int (se_ix ok_ix (sv 3) se_int (fun _ _=>rfl)) (se_ix ok_ix (se_ix ok_ix (sv 0) (se_ix ok_ix (sv 3) se_int (fun _ _=>rfl)) (fun _ _=>rfl)) se_int (fun _ _=>rfl)))))
     ·refine ss_one ?_
      refine s_ret ?_
      refine se_tup (n:=6) ?_
      refine sa_cons ?_ ?_
      ·exact se_str
      refine sa_cons ?_ ?_
      ·exact se_ix ok_ix (sv 3) se_int (fun _ _=>rfl)
      refine sa_cons ?_ ?_
      ·exact se_ix ok_ix (sv 3) se_int (fun _ _=>rfl)
      refine sa_cons ?_ ?_
      ·exact se_int
      refine sa_cons ?_ ?_
      ·exact se_ix ok_ix (sv 3) se_int (fun _ _=>rfl)
      refine sa_cons ?_ ?_
      ·exact se_int
      exact sa_nil
     exact ss_nil
    refine ss_one ?_
    refine s_ret ?_
    exact se_non
   exact ss_nil
  refine ss_cons ?_ ?_
  ·refine s_if ?_ ?_ ?_
   ·exact st_cmp (ok_eq hr.units) (se_ix ok_ix (sv 3) se_int (fun _ _=>rfl)) se_str (nomark _)
   ·refine ss_one ?_
    refine s_ret ?_
    exact se_if (st_w (sw_and (st_chain ok_le ok_ltI se_int (se_ix ok_ix (sv 3) se_int (fun _ _=>rfl)) se_int) (sw_and1 (st_cmp (ok_eq hr.units) (se_op ok_band (se_op ok_shr (sv 1) (se_ix ok_ix (sv 3) se_int (fun _ _=>rfl))) se_int) se_int (nomark _))))) (se_tup (sa_cons se_str (sa_cons se_int (sa_cons se_int (sa_cons (se_ix ok_ix (sv 3) se_int (fun _ _=>rfl)) (sa_cons se_int sa_nil)))))) se_non
   exact ss_nil
  refine ss_cons ?_ ?_
  ·refine s_if ?_ ?_ ?_
   ·exact st_not (st_chain ok_le ok_ltI se_int (se_ix ok_ix (sv 3) se_int (fun _ _=>rfl)) (se_callB ok_len rfl T.b_len PySem.boot_len (sa_cons (sv 2) sa_nil)))
   ·refine ss_one ?_
    refine s_ret ?_
    exact se_non
   exact ss_nil
  refine ss_cons ?_ ?_
  ·refine s_set (i:=4) ?_ ?_ ?_ ?_
   ·exact sc_q3.nd
   ·exact rfl
   ·exact Or.inl rfl
   exact se_ix ok_ix (sv 2) (se_ix ok_ix (sv 3) se_int (fun _ _=>rfl)) (fun _ _=>rfl)
  refine ss_cons ?_ ?_
  ·refine s_if ?_ ?_ ?_
   ·exact st_cmp (ok_ne hr.units) (se_ix ok_ix (sv 4) se_int (fun _ _=>rfl)) (se_ix ok_ix (se_v (sn_lst (sa_cons se_str (sa_cons se_str sa_nil)))) (se_callTy ok_int rfl T.b_int PyProof.Rows.boot_int (sa_cons (se_cmp ok_in (se_ix ok_ix (sv 3) se_int (fun _ _=>rfl)) (se_tup (sa_cons se_str (sa_cons se_str sa_nil))) rfl) sa_nil)) (fun _ _=>rfl)) (nomark _)
   ·refine ss_one ?_
    refine s_ret ?_
    exact se_non
   exact ss_nil
  refine ss_cons ?_ ?_
  ·refine s_if ?_ ?_ ?_
   ·exact st_cmp ok_in (se_ix ok_ix (sv 3) se_int (fun _ _=>rfl)) (se_tup (sa_cons se_str (sa_cons se_str (sa_cons se_str sa_nil)))) rfl
   ·refine ss_one ?_
    refine s_ret ?_
    exact se_cal C_q12 (hr.mono (by decide)) rfl (sa_cons (sv 0) (sa_cons (sv 4) (sa_cons (se_ix ok_ix (sv 3) se_int (fun _ _=>rfl)) (sa_cons (se_ix ok_ix (sv 3) se_int (fun _ _=>rfl)) (sa_cons (se_ix ok_ix (sv 3) se_int (fun _ _=>rfl)) sa_nil)))))
   exact ss_nil
  refine ss_cons ?_ ?_
  ·refine s_set (i:=5) ?_ ?_ ?_ ?_
   ·exact sc_q3.nd
   ·exact rfl
   ·exact Or.inl rfl
   exact se_if (st_cmp (ok_eq hr.units) (se_ix ok_ix (sv 3) se_int (fun _ _=>rfl)) se_str (nomark _)) (se_ix ok_ix (sv 3) se_int (fun _ _=>rfl)) (se_ix ok_ix (sv 3) se_int (fun _ _=>rfl))
  refine ss_cons ?_ ?_
  ·refine s_if ?_ ?_ ?_
   ·exact st_w (sw_or (st_not (st_chain ok_le ok_ltI se_int (sv 5) (se_callB ok_len rfl T.b_len PySem.boot_len (sa_cons (sv 2) sa_nil)))) (sw_or1 (st_cmp (ok_ne hr.units) (se_ix ok_ix (se_ix ok_ix (sv 2) (sv 5) (fun _ _=>rfl)) se_int (fun _ _=>rfl)) se_str (nomark _))))
   ·refine ss_one ?_
    refine s_ret ?_
    exact se_non
   exact ss_nil
  refine ss_cons ?_ ?_
  ·refine s_if ?_ ?_ ?_
   ·exact st_cmp (ok_eq hr.units) (se_ix ok_ix (sv 3) se_int (fun _ _=>rfl)) se_str (nomark _)
   ·refine ss_one ?_
    refine s_ret ?_
    exact se_cal C_q15 (hr.mono (by decide)) rfl (sa_cons (sv 0) (sa_cons (sv 4) (sa_cons (se_ix ok_ix (sv 3) se_int (fun _ _=>rfl)) (sa_cons (se_ix ok_ix (sv 2) (sv 5) (fun _ _=>rfl)) (sa_cons (se_ix ok_ix (sv 3) se_int (fun _ _=>rfl)) sa_nil)))))
   exact ss_nil
  refine ss_cons ?_ ?_
  ·refine s_if ?_ ?_ ?_
   ·exact st_w (sw_or (st_cmp (ok_ne hr.units) (se_ix ok_ix (sv 4) se_int (fun _ _=>rfl)) se_int (nomark _)) (sw_or (st_cmp (ok_ne hr.units) (se_ix ok_ix (se_ix ok_ix (sv 2) (sv 5) (fun _ _=>rfl)) se_int (fun _ _=>rfl)) (se_ix ok_ix (sv 4) se_int (fun _ _=>rfl)) (nomark _)) (sw_or1 (st_cmp (ok_ne hr.units) (se_ix ok_ix (se_ix ok_ix (sv 2) (sv 5) (fun _ _=>rfl)) se_int (fun _ _=>rfl)) (se_ix ok_ix (sv 4) se_int (fun _ _=>rfl)) (nomark _)))))
   ·refine ss_one ?_
    refine s_ret ?_
    exact se_non
   exact ss_nil
  refine ss_one ?_
  refine s_ret ?_
  refine se_tup (n:=5) ?_
  refine sa_cons ?_ ?_
  ·exact se_str
  refine sa_cons ?_ ?_
  ·exact se_ix ok_ix (sv 4) se_int (fun _ _=>rfl)
  refine sa_cons ?_ ?_
  ·exact se_ix ok_ix (se_ix ok_ix (sv 2) (sv 5) (fun _ _=>rfl)) se_int (fun _ _=>rfl)
  refine sa_cons ?_ ?_
  ·exact se_ix ok_ix (se_ix ok_ix (sv 2) (sv 5) (fun _ _=>rfl)) se_int (fun _ _=>rfl)
  refine sa_cons ?_ ?_
  ·exact se_op ok_plus (se_ix ok_ix (sv 4) se_int (fun _ _=>rfl)) (se_ix ok_ix (se_ix ok_ix (sv 2) (sv 5) (fun _ _=>rfl)) se_int (fun _ _=>rfl))
  exact sa_nil) imp_q3
noncomputable def b_q14:DS:=(dSeq (dAsg (dOp pIx (dVar 1) (dVar 2)) (dName 3))
  (dSeq (dAsg (dOp pIx (dVar 3) (dC (.int 1))) (dName 4))
  (dSeq (dAsg (dOp pIx (dVar 3) (dOp pSub (dCB pLen (dCons (dVar 3) dNil)) (dC (.int 3)))) (dName 5))
  (dSeq (dAsg (dOp pIx (dVar 3) (dOp pSub (dCB pLen (dCons (dVar 3) dNil)) (dC (.int 2)))) (dName 6))
  (dSeq (dAsg (dTk dNil) (dName 7))
  (dSeq (dIfS (dAnd (dTst (dOp (pEq false) (dOp pIx (dVar 3) (dC (.int 0))) (dC (.str "at")))) (dTst (dOp (pEq false) (dVar 5) (dC (.int 0))))) (dSeq (dAsg (dV (dComp [none,some 1,some 4,some 6] (dIRange (dCons (dCB pLen (dCons (dVar 1) dNil)) dNil)) (dName 0) (dAnd (dTst (dOp (pEq false) (dOp pIx (dOp pIx (dVar 1) (dVar 0)) (dC (.int 0))) (dC (.str "within")))) (dTst (dOp (pEq false) (dSl (dOp pIx (dVar 1) (dVar 0)) (dPart (dC (.int 1))) (dPart (dC (.int 3)))) (dTup (dCons (dVar 2) (dCons (dVar 3) dNil)))))) (dVar 0))) (dName 8))
  (dDrop (dExtend (dVar 7) (dCons (dV (dComp [none,some 2] (dISeq (dSl (dVar 8) (dPart (dUn pNeg (dC (.int 3)))) dNoPart)) (dName 0) dNoIf (dTup (dCons (dC (.str "along")) (dCons (dVar 1) (dCons (dVar 0) dNil)))))) dNil)))) dNext)
  (dSeq (dFor (dIEnum (dCons (dOp pIx (dOp pIx (dVar 0) (dVar 4)) (dC (.int 2))) dNil)) (dUnp 2 (dGCons (dName 9) (dGCons (dName 10) dGNil))) (dIfS (dAnd (dTst (dOp (pEq false) (dOp pIx (dVar 10) (dC (.int 1))) (dVar 5))) (dTst (dOp (pEq false) (dOp pIx (dVar 3) (dC (.int 0))) (dC (.str "at"))))) (dIfS (dTst (dOp (pEq false) (dOp pIx (dVar 10) (dC (.int 0))) (dC (.str "call")))) (dDrop (dExtend (dVar 7) (dCons (dV (dComp [none,some 2,some 9] (dISeq (dCal S_q9 (dCons (dOp pIx (dOp pIx (dVar 10) (dC (.int 5))) (dVar 6)) dNil))) (dName 0) dNoIf (dTup (dCons (dC (.str "in")) (dCons (dVar 1) (dCons (dVar 2) (dCons (dVar 0) dNil))))))) dNil))) dNext) (dIfS (dTst (dOp (pEq false) (dOp pIx (dVar 10) (dC (.int 1))) (dVar 5))) (dSeq (dAsg (dOp pIx (dV (dCons (dC (.str "step")) (dCons (dC (.str "over")) dNil))) (dCB pInt (dCons (dOp (pEq false) (dOp pIx (dVar 10) (dC (.int 0))) (dC (.str "call"))) dNil))) (dName 11))
  (dSeq (dDrop (dExtend (dVar 7) (dCons (dV (dComp [none,some 11,some 2,some 9] (dISeq (dCal S_q9 (dCons (dOp pIx (dOp pIx (dVar 10) (dUn pNeg (dC (.int 1)))) (dVar 6)) dNil))) (dName 0) dNoIf (dTup (dCons (dVar 1) (dCons (dVar 2) (dCons (dVar 3) (dCons (dVar 0) dNil))))))) dNil)))
  (dIfS (dTst (dOp (pEq false) (dOp pIx (dVar 10) (dC (.int 0))) (dC (.str "call")))) (dDrop (dExtend (dVar 7) (dCons (dV (dComp [none,none,some 2,some 9] (dISeq (dSl (dCal S_q10 (dCons (dVar 0) (dCons (dVar 1) (dCons (dVar 10) (dCons (dVar 6) dNil))))) (dPart (dUn pNeg (dC (.int 4)))) dNoPart)) (dUnp 2 (dGCons (dName 0) (dGCons (dName 1) dGNil))) dNoIf (dTup (dCons (dC (.str "short")) (dCons (dVar 2) (dCons (dVar 3) (dCons (dVar 0) (dCons (dVar 1) dNil)))))))) dNil))) dNext))) dNext)))
  (dRet (dVar 7)))))))))
theorem cut_map{τ:Type}(g:τ→D)(ns:List τ)(lo hi:Option Int):∃ ms:List τ,cutD (ns.map g) lo hi=ms.map g∧ms.length ≤ ns.length∧∀ x ∈ ms,x ∈ ns:=by
 refine ⟨(ns.drop (HT.sIx ns.length 0 lo)).take (HT.sIx ns.length ns.length hi - HT.sIx ns.length 0 lo),?_,?_,fun x hx=>List.mem_of_mem_drop (List.mem_of_mem_take hx)⟩
 ·unfold cutD;rw [List.length_map,← List.map_drop,← List.map_take]
 ·rw [List.length_take,List.length_drop];omega
theorem ahead_nat{cs:List Clm}{k:Nat}{c:Clm}(h:cs[k]?=some c):ahead cs (k:Int)=some c:=by
 unfold ahead;rw [if_pos (by first | decide | omega),Int.toNat_natCast];exact h
theorem br_nat{t:List Nat}{d e:Nat}(h:(t.getD d 0).testBit e=true):br t d (e:Int)=true:=by
 unfold br;rw [decide_eq_true (by first | decide | omega),Int.toNat_natCast];simpa using h
theorem takes_mk{C:Chart}{f n p d e:Nat}{w:Mv}{F:Fn}{E:Edge}(hF:C[f]?=some F)(hE:F.edges[n]?=some E)(h1:(E.isStep == (w == .step))=true)(h2:E.p=p)(h3:br (E.tab w) d e=true):takes C f p d w (n:Int) (e:Int)=some E:=by
 have:edgeAt C f (n:Int)=some E:=by unfold edgeAt;rw [if_pos (by first | decide | omega),hF,Int.toNat_natCast];exact hE
 unfold takes;rw [this];exact if_pos ⟨h1,h2,h3⟩
noncomputable def rowOk(C:Chart)(st:Nat)(cs:List Clm)(r:Row):Prop:=∃ c,claimOf C st cs r=some c
noncomputable def S_q14:DSp:=fun ds h Q=>∃ (c a:D) (C:Chart) (cs:List Clm) (st k:Nat) (one:Clm),ds=[c,a,nD k]∧ChD h c C∧WF C∧lsOf h a=some (cs.map clD)∧cs.length ≤ 1000∧(∀ c ∈ cs,clOk C c)∧cs[k]?=some one∧∀ rs:List Row,rs.length ≤ 100000→(∀ r ∈ rs,rowOk C st cs r)→Q (.lst (rs.map rD)) h
theorem src_keep{h:Hh}{d:D}{xs:List D}(e:lsOf h d=some xs):∃ w,(∀ h',Pre h h'→seqSrc h' d=some ⟨xs,w⟩)∧∀ ys h',Pre h h'→(Src.mk ys w).ok h':=by
 obtain ⟨w,e1,e2,e3⟩:=src_ls e
 refine ⟨w,fun h' p=>?_,fun ys h' p z hz=>p _ _ (e2 z hz)⟩
 obtain ⟨w',e4,e5,e6⟩:=src_ls (p.ls e)
 rw [e4]
 cases d with
 |lst ys=>cases e1;cases e4;rfl
 |scr ys=>cases e1;cases e4;rfl
 |ref i =>
  have e:(match h[i]? with | some (.lst xs)=>some xs | _=>none)=some xs:=e
  cases q:h[i]? with
  |none=>rw [q] at e;cases e
  |some o =>
   cases o with
   |lst ys =>
    rw [q] at e;cases e
    rw [seqSrc_ref q] at e1
    rw [seqSrc_ref (p _ _ q)] at e4
    cases e1;cases e4;rfl
   |dT _=>rw [q] at e;cases e
   |dK _=>rw [q] at e;cases e
   |ins _ _=>rw [q] at e;cases e
 |non=>cases e
 |bl _=>cases e
 |int _=>cases e
 |str _=>cases e
 |tup _=>cases e
 |exc _ _=>cases e
theorem cl_mv{C:Chart}{cs:List Clm}{w:Mv}{k n e:Int}{f a p d c:Nat}(st:Nat)(hw:w ≠ .inn)(h:ahead cs k=some (.within f a p d c)):claimOf C st cs (.mv w k n e)=(takes C f p d w n e).map fun E=>.within f a E.q e.toNat (c + E.cost):=by
 cases w with
 |inn=>exact absurd rfl hw
 |step=>simp only [claimOf,h]
 |over=>simp only [claimOf,h]
theorem cl_in{C:Chart}{cs:List Clm}{k n e:Int}{f p d c:Nat}(st:Nat)(h:ahead cs k=some (.at f p d c)):claimOf C st cs (.mv .inn k n e)=(takes C f p d .inn n e).bind fun E=>match E.k with | .call g _ _ _=>some (.at g 0 e.toNat (c + E.cost)) | _=>none:=by
 simp only [claimOf,h] <;> rfl
theorem cl_short{C:Chart}{cs:List Clm}{k n j e:Int}{f a p d c g b x y c':Nat}(st:Nat)(h1:ahead cs k=some (.within f a p d c))(h2:ahead cs j=some (.within g b x y c')):claimOf C st cs (.short k n j e)=(takes C f p d .inn n b).bind fun E=>match E.k with
   |.call g' _ bk _=>(C[g']?).bind fun G=>if g'=g∧x + 1=G.places∧br bk y e=true then some (.within f a E.q e.toNat (c + E.cost + c')) else none
   |_=>none:=by
 simp only [claimOf,h1,h2] <;> rfl
theorem cl_along{C:Chart}{cs:List Clm}{k j:Int}{f a c q d c':Nat}(st:Nat)(h1:ahead cs k=some (.at f 0 a c))(h2:ahead cs j=some (.within f a q d c')):claimOf C st cs (.along k j)=some (.at f q d (c + c')):=by
 simp only [claimOf,h1,h2,true_and,and_self,if_true]
noncomputable def alB(cs:List Clm)(f d j:Nat):Bool:=match cs[j]? with | some (.within g b _ _ _)=>decide (g=f) && decide (b=d) | _=>false
theorem eqv2(a b c d:Int):PyData.eqv (.tuple [.int a,.int b]) (.tuple [.int c,.int d])=(a == c && b == d):=by
 simp [PyData.eqv,PyData.eqvAll]
theorem imp_q14:∀ ds h Q,S_q14 ds h Q→runD 12 b_q14 ds h (Dr h Q):=by
 rintro ds h Q ⟨c,a,C,cs,st,k,one,rfl,hc,wf,ha,hcl,ok,ho,q⟩
 have ax:atI (cs.map clD) (k:Int)=some (clD one):=by rw [atN,List.getElem?_map,ho];rfl
 have okc:=ok one (List.mem_of_getElem? ho)
 have pr:∀ o,Pre h (h ++ [o]):=fun o=>Pre.app _ _
 have ak:=ahead_nat ho
 have fin:∀ rs:List Row,rs.length ≤ 100000→(∀ r ∈ rs,rowOk C st cs r)→Dr h Q (.ref h.length) (h ++ [.lst (rs.map rD)]):=fun rs h1 h2=>by
  have:=Dr.dropL (h:=h) (Q:=Q) (xs:=rs.map rD) (g1:=[]) (g2:=[]) (k:=h.length) (nrDs_map nrD_rD rs) (by simp) (q rs h1 h2)
  simpa using this
 cases one with
 |within f a0 p d x =>
  obtain ⟨F,hF,u1,u2,u3⟩:=okc
  obtain ⟨_,_,_,_,f100,eok⟩:=wf.fn f F hF
  obtain ⟨y,e1,e2⟩:=hc.fn hF
  obtain ⟨w,s1,s2⟩:=src_keep e2
  have e1':∀ o,ixD (h ++ [o]) c (nD f)=some (.tup [nD F.places,nD F.facts,y]):=fun o=>by
   obtain ⟨fs,q1,q2,q3⟩:=hc
   rw [ix_ls ((pr o).ls q1)]
   rw [ix_ls q1] at e1
   exact e1
  delta runD runX b_q14;simp only [List.map_cons,List.map_nil,List.cons_append,List.nil_append,List.length_cons,List.length_nil,List.replicate,Nat.reduceSub,Nat.reduceAdd,Nat.zero_add,Nat.sub_self]
  (try dsimp only);refine seq_intro fun N hN=>?_
  simp only [ix_ls ha,ax,VV]
  subst hN
  (try dsimp only);refine seq_intro fun N hN=>?_
  simp only [clD,VV]
  subst hN
  (try dsimp only);refine seq_intro fun N hN=>?_
  simp only [VV]
  have i3:atI [D.str "within",nD f,nD a0,nD p,nD d,nD x] (((0 + 1 + 1 + 1 + 1 + 1 + 1:Nat):Int) - 3)=some (nD p):=rfl
  have i2:atI [D.str "within",nD f,nD a0,nD p,nD d,nD x] (((0 + 1 + 1 + 1 + 1 + 1 + 1:Nat):Int) - 2)=some (nD d):=rfl
  simp only [i3,VV]
  subst hN
  (try dsimp only);refine seq_intro fun N hN=>?_
  simp only [i2,VV]
  subst hN
  (try dsimp only);refine seq_intro fun N hN=>?_
  simp only [VV]
  subst hN
  (try dsimp only);refine seq_intro fun N hN=>?_
  simp only [VV]
  subst hN
  (try dsimp only);refine seq_intro fun N hN=>?_
  simp only [e1',s1 _ (pr _),VV]
  rw [enumD_map]
  refine forL_map (fun p' δ h'=>∃ (rs:List Row) (x9 x10 x11:Option D),δ=[some c,some a,some (nD k),some (clD (.within f a0 p d x)),some (nD f),some (nD p),some (nD d),some (.ref h.length),none,x9,x10,x11]∧h'=h ++ [.lst (rs.map rD)]∧rs.length ≤ 10 * p'.length∧∀ r ∈ rs,rowOk C st cs r) ⟨[],none,none,none,rfl,rfl,by simp,fun x hx=>nomatch hx⟩ ?_ ?_ ?_
  ·rintro p' δ h' ⟨rs,x9,x10,x11,rfl,rfl,_⟩
   exact s2 _ _ (pr _)
  ·rintro p' ⟨E,n⟩ r' δ h' N1 e ⟨rs,x9,x10,x11,rfl,rfl,hrl,hrs⟩ hN1
   have hE:F.edges[n]?=some E:=by
    have:F.edges.zipIdx[p'.length]?=some (E,n):=by rw [e];simp
    rw [List.getElem?_zipIdx] at this
    cases z:F.edges[p'.length]? with
    |none=>rw [z] at this;cases this
    |some E'=>rw [z] at this;cases this;simpa using z
   have oe:=eok E (List.mem_of_getElem? hE)
   have same:∀ x9 x10 x11:Option D,N1 [some c,some a,some (nD k),some (clD (.within f a0 p d x)),some (nD f),some (nD p),some (nD d),some (.ref h.length),none,x9,x10,x11] (h ++ [.lst (rs.map rD)]):=fun x9 x10 x11=>hN1 _ _ ⟨rs,_,_,_,rfl,rfl,by rw [List.length_append];simp;omega,hrs⟩
   have rsl:rs.length ≤ 2000:=by
    have:p'.length < F.edges.zipIdx.length:=by rw [e];simp
    rw [List.length_zipIdx] at this
    omega
   have ep:∀ h',ixD h' (eD E) (.int 1)=some (nD E.p):=fun h'=>eD_1 h' E
   have e3:((E.p:Int) == (p:Int))=decide (E.p=p):=by first | exact beqN _ _ | exact beqP _ _ | exact beqS _ _
   simp only [VV0]
   refine ⟨trivial,?_⟩
   (try dsimp only);refine if_intro fun A1 B1 hA hB=>?_
   by_cases c1:E.p=p
   ·have e4:((E.p:Int) == (p:Int))=true:=by rw [e3];exact decide_eq_true c1
    simp only [ep,e4,clD,VV]
    clear hA A1
    subst hB
    (try dsimp only);refine if_intro fun A1 B1 hA hB=>?_
    simp only [ep,e4,VV]
    subst hA
    clear hB B1
    clear ep e3 e4
    obtain ⟨Ep,Eq,Ec,Ek⟩:=E
    dsimp only at c1
    subst c1
    obtain ⟨o1,o2,o3,o4,o5⟩:=oe
    have facts_row:∀ (w:Mv) (m:List Nat),w ≠ .inn→(Edge.mk Ep Eq Ec Ek).isStep=(w == .step)→(Edge.mk Ep Eq Ec Ek).tab w=m→∀ e ∈ facts6 (m.getD d 0),rowOk C st cs (.mv w k n e):=by
     rintro w m hw h1 rfl e he
     have tk:=takes_mk (C:=C) (f:=f) (n:=n) (p:=Ep) (d:=d) (e:=e) (w:=w) hF hE (by rw [h1];exact beq_self_eq_true _) rfl (br_nat (mem6 he).1)
     exact ⟨.within f a0 Eq e (x + Ec),by rw [cl_mv st hw ak,tk];rfl⟩
    cases Ek with
    |step t =>
     have m1:atI [D.str "step",nD Ep,nD Eq,nD Ec,tD t] (-1)=some (tD t):=rfl
     have m2:∀ h',ixD h' (tD t) (nD d)=some (nD (t.getD d 0)):=fun h'=>tD_ix _ o5 u3
     (try dsimp only);refine seq_intro fun N hN=>?_
     simp only [eD,VV]
     subst hN
     (try dsimp only);refine seq_intro fun N hN=>?_
     simp only [get_new,m1,m2,VV]
     refine ⟨_,rfl,?_⟩
     simp only [VV]
     refine ⟨by rw [List.length_map];have:=len6 (t.getD d 0);omega,?_⟩
     refine comp1n (fun e:Nat=>rD (.mv .step k n e)) Src.ok_nil none (fun e he K k=>?_) ?_
     ·simp only [VV]
      rw [Int.zero_add];exact k
     ·simp only [get_new,set_new,List.length_map,VV]
      have l6:=len6 (t.getD d 0)
      refine ⟨by first | decide | omega,?_⟩
      subst hN
      simp only [VV]
      refine hN1 _ _ ⟨rs ++ (facts6 (t.getD d 0)).map (fun e:Nat=>.mv .step k n e),_,_,_,rfl,?_,?_,fun r hr=>?_⟩
      ·rw [List.map_append,List.map_map];rfl
      ·simp only [List.length_append,List.length_map,List.length_singleton];omega
      ·rcases List.mem_append.mp hr with z | z
       ·exact hrs r z
       ·obtain ⟨e',he',rfl⟩:=List.mem_map.mp z
        exact facts_row .step t (by decide) rfl rfl e' he'
    |call g i b o =>
     obtain ⟨G,hG,t1,t2,t3⟩:=o5
     have m2:∀ h',ixD h' (tD o) (nD d)=some (nD (o.getD d 0)):=fun h'=>tD_ix _ t3 u3
     have m1:atI [D.str "call",nD Ep,nD Eq,nD Ec,nD g,tD i,tD b,tD o] (-1)=some (tD o):=rfl
     (try dsimp only);refine seq_intro fun N hN=>?_
     simp only [eD,VV]
     subst hN
     (try dsimp only);refine seq_intro fun N hN=>?_
     simp only [get_new,m1,m2,VV]
     refine ⟨_,rfl,?_⟩
     simp only [VV]
     refine ⟨by rw [List.length_map];have:=len6 (o.getD d 0);omega,?_⟩
     refine comp1n (fun e:Nat=>rD (.mv .over k n e)) Src.ok_nil none (fun e he K k=>?_) ?_
     ·simp only [VV]
      rw [Int.zero_add];exact k
     ·simp only [get_new,set_new,List.length_map,VV]
      have l6:=len6 (o.getD d 0)
      refine ⟨by first | decide | omega,?_⟩
      subst hN
      rw [show rs.map rD ++ (facts6 (o.getD d 0)).map (fun e:Nat=>rD (.mv .over k n e))=(rs ++ (facts6 (o.getD d 0)).map (fun e:Nat=>Row.mv .over k n e)).map rD by rw [List.map_append,List.map_map];rfl]
      have ok1:∀ r ∈ rs ++ (facts6 (o.getD d 0)).map (fun e:Nat=>Row.mv .over k n e),rowOk C st cs r:=fun r hr=>by
       rcases List.mem_append.mp hr with z | z
       ·exact hrs r z
       ·obtain ⟨e',he',rfl⟩:=List.mem_map.mp z
        exact facts_row .over o (by decide) rfl rfl e' he'
      have ll:(rs ++ (facts6 (o.getD d 0)).map (fun e:Nat=>Row.mv .over k n e)).length=rs.length + (facts6 (o.getD d 0)).length:=by simp
      generalize rs ++ (facts6 (o.getD d 0)).map (fun e:Nat=>Row.mv .over k n e)=rs1 at ok1 ll
      simp only [get_new,VV]
      refine ⟨c,a,C,cs,⟨Ep,Eq,Ec,.call g i b o⟩,F,g,d,i,b,o,rfl,rfl,hc.mono (pr _),wf,⟨o1,o2,o3,o4,G,hG,t1,t2,t3⟩,u3,(pr _).ls ha,hcl,ok,fun xs hxl hxs=>?_⟩
      obtain ⟨ms,k1,k2,k3⟩:=cut_map jD xs (some (-4)) none
      have m4:ms.length ≤ 4:=by
       have:=congrArg List.length k1
       rw [List.length_map] at this
       rw [← this]
       unfold cutD
       rw [List.length_take]
       unfold HT.sIx
       simp only [List.length_map]
       rw [if_pos (show (-4:Int) < 0 by decide)]
       omega
      simp only [k1,VV]
      refine ⟨by rw [List.length_map];omega,?_⟩
      refine compL_map (g:=jD) (fun p acc δ h'=>(∃ x y,δ=[x,y,some (nD k),some (.int (0 + (n:Int)))])∧acc=p.map (fun z:Nat×Nat=>rD (.short k n z.1 z.2))∧h'=h ++ [.lst (rs1.map rD)]) ⟨⟨_,_,rfl⟩,rfl,rfl⟩ (fun _ _ _ _ _=>Src.ok_nil) ?_ ?_
      ·rintro p ⟨zj,ze⟩ r acc δ h' N ee ⟨⟨x,y,rfl⟩,rfl,rfl⟩ hN
       simp only [jD,VV]
       refine ⟨trivial,hN _ _ _ ⟨⟨_,_,rfl⟩,?_,rfl⟩⟩
       rw [List.map_append,Int.zero_add];rfl
      ·rintro acc δ h' ⟨_,rfl,rfl⟩
       simp only [get_new,set_new,List.length_map,VV]
       refine ⟨by first | decide | omega,hN1 _ _ ⟨rs1 ++ ms.map (fun z:Nat×Nat=>.short k n z.1 z.2),_,_,_,rfl,?_,?_,fun r hr=>?_⟩⟩
       ·rw [List.map_append,List.map_map];rfl
       ·simp only [List.length_append,List.length_map,List.length_singleton];omega
       ·rcases List.mem_append.mp hr with z | z
        ·exact ok1 r z
        ·obtain ⟨⟨zj,ze⟩,hz,rfl⟩:=List.mem_map.mp z
         obtain ⟨b',px,y',c',q1,⟨G',hG',q2⟩,q3,q4⟩:=hxs _ (k3 _ hz)
         have tk:=takes_mk (C:=C) (f:=f) (n:=n) (p:=Ep) (d:=d) (e:=b') (w:=.inn) hF hE rfl rfl q3
         have ak2:=ahead_nat q1
         refine ⟨.within f a0 Eq ze (x + Ec + c'),?_⟩
         rw [cl_short st ak ak2,tk]
         show ((C[g]?).bind fun G=>if g=g∧px + 1=G.places∧br b y' ze=true then some (Clm.within f a0 Eq ((ze:Int)).toNat (x + Ec + c')) else none)=_
         rw [hG']
         show (if g=g∧px + 1=G'.places∧br b y' ze=true then some (Clm.within f a0 Eq ((ze:Int)).toNat (x + Ec + c')) else none)=_
         rw [if_pos ⟨rfl,q2,q4⟩,Int.toNat_natCast]
   ·have e4:((E.p:Int) == (p:Int))=false:=by rw [e3];exact decide_eq_false c1
    simp only [ep,e4,clD,VV]
    clear hA A1
    subst hB
    (try dsimp only);refine if_intro fun A1 B1 hA hB=>?_
    simp only [ep,e4,VV]
    clear hA A1
    subst hB
    exact same _ _ _
  ·rintro δ h' ⟨rs,x9,x10,x11,rfl,rfl,hrl,hrs⟩
   subst hN
   simp only [VV]
   exact fin rs (by rw [List.length_zipIdx] at hrl;omega) hrs
 |«at» f p d x =>
  obtain ⟨F,hF,u2,u3⟩:=okc
  obtain ⟨_,_,_,_,f100,eok⟩:=wf.fn f F hF
  obtain ⟨y,e1,e2⟩:=hc.fn hF
  obtain ⟨w,s1,s2⟩:=src_keep e2
  have e1':∀ o,ixD (h ++ [o]) c (nD f)=some (.tup [nD F.places,nD F.facts,y]):=fun o=>by
   obtain ⟨fs,q1,q2,q3⟩:=hc
   rw [ix_ls ((pr o).ls q1)]
   rw [ix_ls q1] at e1
   exact e1
  delta runD runX b_q14;simp only [List.map_cons,List.map_nil,List.cons_append,List.nil_append,List.length_cons,List.length_nil,List.replicate,Nat.reduceSub,Nat.reduceAdd,Nat.zero_add,Nat.sub_self]
  (try dsimp only);refine seq_intro fun N hN=>?_
  simp only [ix_ls ha,ax,VV]
  subst hN
  (try dsimp only);refine seq_intro fun N hN=>?_
  simp only [clD,VV]
  subst hN
  (try dsimp only);refine seq_intro fun N hN=>?_
  simp only [VV]
  have i3:atI [D.str "at",nD f,nD p,nD d,nD x] (((0 + 1 + 1 + 1 + 1 + 1:Nat):Int) - 3)=some (nD p):=rfl
  have i2:atI [D.str "at",nD f,nD p,nD d,nD x] (((0 + 1 + 1 + 1 + 1 + 1:Nat):Int) - 2)=some (nD d):=rfl
  simp only [i3,VV]
  subst hN
  (try dsimp only);refine seq_intro fun N hN=>?_
  simp only [i2,VV]
  subst hN
  (try dsimp only);refine seq_intro fun N hN=>?_
  simp only [VV]
  subst hN
  (try dsimp only);refine seq_intro fun N hN=>?_
  have rest:∀ (rs0:List Row) (x8:Option D),rs0.length ≤ 3→(∀ r ∈ rs0,rowOk C st cs r)→N [some c,some a,some (nD k),some (clD (.at f p d x)),some (nD f),some (nD p),some (nD d),some (.ref h.length),x8,none,none,none] (h ++ [.lst (rs0.map rD)]):=by
   intro rs0 x8 l3 ok0
   subst hN
   (try dsimp only);refine seq_intro fun N hN=>?_
   simp only [e1',s1 _ (pr _),VV]
   rw [enumD_map]
   refine forL_map (fun p' δ h'=>∃ (rs:List Row) (x9 x10 x11:Option D),δ=[some c,some a,some (nD k),some (clD (.at f p d x)),some (nD f),some (nD p),some (nD d),some (.ref h.length),x8,x9,x10,x11]∧h'=h ++ [.lst (rs.map rD)]∧rs.length ≤ 10 * p'.length + 3∧∀ r ∈ rs,rowOk C st cs r) ⟨rs0,none,none,none,rfl,rfl,by simp;omega,ok0⟩ ?_ ?_ ?_
   ·rintro p' δ h' ⟨rs,x9,x10,x11,rfl,rfl,_⟩
    exact s2 _ _ (pr _)
   ·rintro p' ⟨E,n⟩ r' δ h' N1 e ⟨rs,x9,x10,x11,rfl,rfl,hrl,hrs⟩ hN1
    have hE:F.edges[n]?=some E:=by
     have:F.edges.zipIdx[p'.length]?=some (E,n):=by rw [e];simp
     rw [List.getElem?_zipIdx] at this
     cases z:F.edges[p'.length]? with
     |none=>rw [z] at this;cases this
     |some E'=>rw [z] at this;cases this;simpa using z
    have oe:=eok E (List.mem_of_getElem? hE)
    have same:∀ x9 x10 x11:Option D,N1 [some c,some a,some (nD k),some (clD (.at f p d x)),some (nD f),some (nD p),some (nD d),some (.ref h.length),x8,x9,x10,x11] (h ++ [.lst (rs.map rD)]):=fun x9 x10 x11=>hN1 _ _ ⟨rs,_,_,_,rfl,rfl,by rw [List.length_append];simp;omega,hrs⟩
    have rsl:rs.length ≤ 2000:=by
     have:p'.length < F.edges.zipIdx.length:=by rw [e];simp
     rw [List.length_zipIdx] at this
     omega
    have ep:∀ h',ixD h' (eD E) (.int 1)=some (nD E.p):=fun h'=>eD_1 h' E
    have e3:((E.p:Int) == (p:Int))=decide (E.p=p):=by first | exact beqN _ _ | exact beqP _ _ | exact beqS _ _
    simp only [VV0]
    refine ⟨trivial,?_⟩
    (try dsimp only);refine if_intro fun A1 B1 hA hB=>?_
    by_cases c1:E.p=p
    ·have e4:((E.p:Int) == (p:Int))=true:=by rw [e3];exact decide_eq_true c1
     simp only [ep,e4,clD,VV]
     clear hB B1
     subst hA
     clear ep e3 e4
     obtain ⟨Ep,Eq,Ec,Ek⟩:=E
     dsimp only at c1
     subst c1
     obtain ⟨o1,o2,o3,o4,o5⟩:=oe
     cases Ek with
     |step t =>
      simp only [eD,VV]
      exact same _ _ _
     |call g i b o =>
      obtain ⟨G,hG,t1,t2,t3⟩:=o5
      have m2:∀ h',ixD h' (tD i) (nD d)=some (nD (i.getD d 0)):=fun h'=>tD_ix _ t1 u3
      (try dsimp only);refine if_intro fun A1 B1 hA hB=>?_
      simp only [eD,VV]
      clear hB B1
      subst hA
      simp only [eD,get_new,m2,VV]
      refine ⟨_,rfl,?_⟩
      simp only [VV]
      refine ⟨by rw [List.length_map];have:=len6 (i.getD d 0);omega,?_⟩
      refine comp1n (fun e:Nat=>rD (.mv .inn k n e)) Src.ok_nil none (fun e he K k=>?_) ?_
      ·simp only [VV]
       rw [Int.zero_add];exact k
      ·simp only [get_new,set_new,List.length_map,VV]
       have l6:=len6 (i.getD d 0)
       refine ⟨by first | decide | omega,hN1 _ _ ⟨rs ++ (facts6 (i.getD d 0)).map (fun e:Nat=>.mv .inn k n e),_,_,_,rfl,?_,?_,fun r hr=>?_⟩⟩
       ·rw [List.map_append,List.map_map];rfl
       ·simp only [List.length_append,List.length_map,List.length_singleton];omega
       ·rcases List.mem_append.mp hr with z | z
        ·exact hrs r z
        ·obtain ⟨e',he',rfl⟩:=List.mem_map.mp z
         have tk:=takes_mk (C:=C) (f:=f) (n:=n) (p:=Ep) (d:=d) (e:=e') (w:=.inn) hF hE rfl rfl (br_nat (mem6 he').1)
         exact ⟨.at g 0 e' (x + Ec),by rw [cl_in st ak,tk];rfl⟩
    ·have e4:((E.p:Int) == (p:Int))=false:=by rw [e3];exact decide_eq_false c1
     simp only [ep,e4,clD,VV]
     clear hA A1
     subst hB
     (try dsimp only);refine if_intro fun A1 B1 hA hB=>?_
     simp only [ep,e4,VV]
     clear hA A1
     subst hB
     exact same _ _ _
   ·rintro δ h' ⟨rs,x9,x10,x11,rfl,rfl,hrl,hrs⟩
    subst hN
    simp only [VV]
    exact fin rs (by rw [List.length_zipIdx] at hrl;omega) hrs
  by_cases p0:p=0
  ·subst p0
   have z0:(((0:Nat):Int) == 0)=true:=rfl
   simp only [z0,VV]
   (try dsimp only);refine seq_intro fun N2 hN2=>?_
   simp only [len_ls ((pr _).ls ha),List.length_map,VV]
   refine ⟨by first | decide | omega,by rw [rangeD_length];omega,?_⟩
   rw [rangeD_map,Int.toNat_natCast]
   have e30:((0:Int) + 3)=3:=rfl
   refine comp1 (fun j=>alB cs f d j) nD Src.ok_nil none (fun j hj K k=>?_) (fun j hj _ K k=>?_) ?_
   ·have hj:=List.mem_range.mp hj
    obtain ⟨one,ho⟩:∃ y,cs[j]?=some y:=⟨_,List.getElem?_eq_getElem hj⟩
    have aj:atI (cs.map clD) (0 + (j:Int))=some (clD one):=by rw [Int.zero_add,atN,List.getElem?_map,ho];rfl
    have lk:=(pr (.lst [])).ls ha
    unfold alB at k
    rw [ho] at k
    cases one with
    |«at» f' p' d' x'=>simp only [ix_ls lk,aj,clD,VV];exact k
    |within g b p' d' x' =>
     have k:K (decide (g=f) && decide (b=d)) _:=k
     have sl:cutD [D.str "within",nD g,nD b,nD p',nD d',nD x'] (some 1) (some 3)=[nD g,nD b]:=rfl
     simp only [ix_ls lk,aj,clD,sl,VV]
     refine ⟨_,_,.tup (.cons (.int _) (.cons (.int _) .nil)),.tup (.cons (.int _) (.cons (.int _) .nil)),shaped_intsT [_,_],shaped_intsT [_,_],?_⟩
     rw [eqv2]
     have g1:((g:Int) == (f:Int))=decide (g=f):=by first | exact beqN _ _ | exact beqP _ _ | exact beqS _ _
     have g2:((b:Int) == (d:Int))=decide (b=d):=by first | exact beqN _ _ | exact beqP _ _ | exact beqS _ _
     rw [g1,g2]
     exact k
   ·simp only [VV]
    rw [Int.zero_add];exact k
   ·obtain ⟨ms,k1,k2,k3⟩:=cut_map nD ((List.range cs.length).filter (alB cs f d)) (some (-3)) none
    have m3:ms.length ≤ 3:=by
     have:=congrArg List.length k1
     rw [List.length_map] at this
     rw [← this]
     unfold cutD
     rw [List.length_take]
     unfold HT.sIx
     simp only [List.length_map]
     rw [if_pos (show (-3:Int) < 0 by decide)]
     omega
    subst hN2
    simp only [k1,get_new,VV]
    refine ⟨by rw [List.length_map];omega,?_⟩
    refine comp1n (fun j:Nat=>rD (.along k j)) Src.ok_nil none (fun e he K k=>?_) ?_
    ·simp only [VV]
     exact k
    ·simp only [get_new,set_new,List.length_map,VV]
     refine ⟨by first | decide | omega,?_⟩
     have:=rest (ms.map fun j:Nat=>.along k j) (some (.lst (((List.range cs.length).filter (alB cs f d)).map nD))) (by simpa using m3) (fun r hr=>by
      obtain ⟨j,hj,rfl⟩:=List.mem_map.mp hr
      have hj:=k3 j hj
      rw [List.mem_filter] at hj
      have hj:=hj.2
      unfold alB at hj
      cases z:cs[j]? with
      |none=>rw [z] at hj;cases hj
      |some o =>
       rw [z] at hj
       cases o with
       |«at» f' p' d' x'=>cases hj
       |within g b p' d' x' =>
        have hj:(decide (g=f) && decide (b=d))=true:=hj
        rw [Bool.and_eq_true,decide_eq_true_iff,decide_eq_true_iff] at hj
        obtain ⟨rfl,rfl⟩:=hj
        exact ⟨_,cl_along st ak (ahead_nat z)⟩)
     rw [List.map_map] at this
     exact this
  ·have e0:((p:Int) == 0)=decide (p=0):=by rw [Bool.eq_iff_iff];simp
   simp only [e0,p0,VV]
   exact rest [] none (by simp) (fun x hx=>nomatch hx)
theorem ok_q14{f:Addr}{fd:FuncData}(F:Fun K "_law_rows_from" "_law_rows_from" s_q14 f fd)(T:Txt P w K mg)(C_q9:Cal P w K mg base 1 "_law_facts" ["_law_mask"] (spD K 1 S_q9))(C_q10:Cal P w K mg base 2 "_law_inner" ["_law_chart_here","_law_done","_law_edge_here","_law_d"] (spD K 4 S_q10)):FnOk P w K mg base CX0 3 f fd ["_law_chart_here","_law_done","_law_k"] (spD K 3 S_q14) :=
 fn_okD (k:=2) (b:=b_q14) F sc_q14 (fun cdv A outer s H E hr=>by
  refine ss_cons ?_ ?_
  ·refine s_set (i:=3) ?_ ?_ ?_ ?_
   ·exact sc_q14.nd
   ·exact rfl
   ·exact Or.inl rfl
   exact se_ix ok_ix (sv 1) (sv 2) (fun _ _=>rfl)
  refine ss_cons ?_ ?_
  ·refine s_set (i:=4) ?_ ?_ ?_ ?_
   ·exact sc_q14.nd
   ·exact rfl
   ·exact Or.inr rfl
   exact se_ix ok_ix (sv 3) se_int (fun _ _=>rfl)
  refine ss_cons ?_ ?_
  ·refine s_set (i:=5) ?_ ?_ ?_ ?_
   ·exact sc_q14.nd
   ·exact rfl
   ·exact Or.inl rfl
   exact se_ix ok_ix (sv 3) (se_op ok_sub (se_callB ok_len rfl T.b_len PySem.boot_len (sa_cons (sv 3) sa_nil)) se_int) (fun _ _=>rfl)
  refine ss_cons ?_ ?_
  ·refine s_set (i:=6) ?_ ?_ ?_ ?_
   ·exact sc_q14.nd
   ·exact rfl
   ·exact Or.inr rfl
   exact se_ix ok_ix (sv 3) (se_op ok_sub (se_callB ok_len rfl T.b_len PySem.boot_len (sa_cons (sv 3) sa_nil)) se_int) (fun _ _=>rfl)
  refine ss_cons ?_ ?_
  ·refine s_set (i:=7) ?_ ?_ ?_ ?_
   ·exact sc_q14.nd
   ·exact rfl
   ·exact Or.inl rfl
   exact se_t (sn_lst sa_nil)
  refine ss_cons ?_ ?_
  ·refine s_if ?_ ?_ ?_
   ·exact st_w (sw_and (st_cmp (ok_eq hr.units) (se_ix ok_ix (sv 3) se_int (fun _ _=>rfl)) se_str (nomark _)) (sw_and1 (st_cmp (ok_eq hr.units) (sv 5) se_int (nomark _))))
   ·refine ss_cons ?_ ?_
    ·exact s_setcV (i:=8) (hN:=sc_q14.nd) (hix:=rfl) (hx:=(Or.inl rfl)) rfl (N':= ["_law_j","_law_done","_law_f","_law_d"]) (js:=[none,some 1,some 4,some 6]) ⟨rfl,by decide +kernel,rfl,rfl,rfl⟩ (si_range1 rfl T.b_range (sa_cons (se_callB ok_len rfl T.b_len PySem.boot_len (sa_cons (sv 1) sa_nil)) sa_nil)) (fun s0 H0 fp=>⟨(sg_name (i:=0) (show (["_law_j","_law_done","_law_f","_law_d"]:List Str).Nodup by decide +kernel) rfl (Or.inl rfl)),(sf_one (st_w (sw_and (st_cmp (ok_eq hr.units) (se_ix ok_ix (se_ix ok_ix (sv 1) (sv 0) (fun _ _=>rfl)) se_int (fun _ _=>rfl)) se_str (nomark _)) (sw_and1 (st_cmp (ok_eq hr.units) (se_sl (se_ix ok_ix (sv 1) (sv 0) (fun _ _=>rfl)) (so_some se_int) (so_some se_int)) (se_tup (sa_cons (sv 2) (sa_cons (sv 3) sa_nil))) (nomark _)))))),(sv 0)⟩)
    refine ss_one ?_
    refine s_expr ?_
    refine se_extend (n:=1) ?_ ?_
    ·exact sv 7
    refine sa_cons ?_ ?_
    ·refine se_v ?_
     exact sn_comp rfl (N':= ["_law_j","_law_k"]) (js:=[none,some 2]) ⟨rfl,by decide +kernel,rfl,rfl,rfl⟩ (si_seq (se_sl (sv 8) (so_some (se_un ok_neg se_int)) so_none)) (fun s0 H0 fp=>⟨(sg_name (i:=0) (show (["_law_j","_law_k"]:List Str).Nodup by decide +kernel) rfl (Or.inl rfl)),sf_nil,(se_tup (sa_cons se_str (sa_cons (sv 1) (sa_cons (sv 0) sa_nil))))⟩)
    exact sa_nil
   exact ss_nil
  refine ss_cons ?_ ?_
  ·refine s_for ?_ ?_ ?_ ?_ ?_
   ·exact PassesOwn.never
   ·exact rfl
   ·exact si_enum rfl T.b_enumerate (sa_cons (se_ix ok_ix (se_ix ok_ix (sv 0) (sv 4) (fun _ _=>rfl)) se_int (fun _ _=>rfl)) sa_nil)
   ·exact sg_tup rfl (sgs_cons (sg_name (i:=9) sc_q14.nd rfl (Or.inr rfl)) (sgs_cons (sg_name (i:=10) sc_q14.nd rfl (Or.inl rfl)) sgs_nil))
   refine ss_one ?_
   refine s_if ?_ ?_ ?_
   ·exact st_w (sw_and (st_cmp (ok_eq hr.units) (se_ix ok_ix (sv 10) se_int (fun _ _=>rfl)) (sv 5) (nomark _)) (sw_and1 (st_cmp (ok_eq hr.units) (se_ix ok_ix (sv 3) se_int (fun _ _=>rfl)) se_str (nomark _))))
   ·refine ss_one ?_
    refine s_if ?_ ?_ ?_
    ·exact st_cmp (ok_eq hr.units) (se_ix ok_ix (sv 10) se_int (fun _ _=>rfl)) se_str (nomark _)
    ·refine ss_one ?_
     refine s_expr ?_
     refine se_extend (n:=1) ?_ ?_
     ·exact sv 7
     refine sa_cons ?_ ?_
     ·refine se_v ?_
      exact sn_comp rfl (N':= ["_law_e","_law_k","_law_n"]) (js:=[none,some 2,some 9]) ⟨rfl,by decide +kernel,rfl,rfl,rfl⟩ (si_seq (se_cal C_q9 (hr.mono (by decide)) rfl (sa_cons (se_ix ok_ix (se_ix ok_ix (sv 10) se_int (fun _ _=>rfl)) (sv 6) (fun _ _=>rfl)) sa_nil))) (fun s0 H0 fp=>⟨(sg_name (i:=0) (show (["_law_e","_law_k","_law_n"]:List Str).Nodup by decide +kernel) rfl (Or.inl rfl)),sf_nil,(se_tup (sa_cons se_str (sa_cons (sv 1) (sa_cons (sv 2) (sa_cons (sv 0) sa_nil)))))⟩)
     exact sa_nil
    exact ss_nil
   refine ss_one ?_
   refine s_if ?_ ?_ ?_
   ·exact st_cmp (ok_eq hr.units) (se_ix ok_ix (sv 10) se_int (fun _ _=>rfl)) (sv 5) (nomark _)
   ·refine ss_cons ?_ ?_
    ·refine s_set (i:=11) ?_ ?_ ?_ ?_
     ·exact sc_q14.nd
     ·exact rfl
     ·exact Or.inr rfl
     exact se_ix ok_ix (se_v (sn_lst (sa_cons se_str (sa_cons se_str sa_nil)))) (se_callTy ok_int rfl T.b_int PyProof.Rows.boot_int (sa_cons (se_cmp (ok_eq hr.units) (se_ix ok_ix (sv 10) se_int (fun _ _=>rfl)) se_str (nomark _)) sa_nil)) (fun _ _=>rfl)
    refine ss_cons ?_ ?_
    ·refine s_expr ?_
     refine se_extend (n:=1) ?_ ?_
     ·exact sv 7
     refine sa_cons ?_ ?_
     ·refine se_v ?_
      exact sn_comp rfl (N':= ["_law_e","_law_word","_law_k","_law_n"]) (js:=[none,some 11,some 2,some 9]) ⟨rfl,by decide +kernel,rfl,rfl,rfl⟩ (si_seq (se_cal C_q9 (hr.mono (by decide)) rfl (sa_cons (se_ix ok_ix (se_ix ok_ix (sv 10) (se_un ok_neg se_int) (fun _ _=>rfl)) (sv 6) (fun _ _=>rfl)) sa_nil))) (fun s0 H0 fp=>⟨(sg_name (i:=0) (show (["_law_e","_law_word","_law_k","_law_n"]:List Str).Nodup by decide +kernel) rfl (Or.inl rfl)),sf_nil,(se_tup (sa_cons (sv 1) (sa_cons (sv 2) (sa_cons (sv 3) (sa_cons (sv 0) sa_nil)))))⟩)
     exact sa_nil
    refine ss_one ?_
    refine s_if ?_ ?_ ?_
    ·exact st_cmp (ok_eq hr.units) (se_ix ok_ix (sv 10) se_int (fun _ _=>rfl)) se_str (nomark _)
    ·refine ss_one ?_
     refine s_expr ?_
     refine se_extend (n:=1) ?_ ?_
     ·exact sv 7
     refine sa_cons ?_ ?_
     ·refine se_v ?_
      exact sn_comp rfl (N':= ["_law_j","_law_e","_law_k","_law_n"]) (js:=[none,none,some 2,some 9]) ⟨rfl,by decide +kernel,rfl,rfl,rfl⟩ (si_seq (se_sl (se_cal C_q10 (hr.mono (by decide)) rfl (sa_cons (sv 0) (sa_cons (sv 1) (sa_cons (sv 10) (sa_cons (sv 6) sa_nil))))) (so_some (se_un ok_neg se_int)) so_none)) (fun s0 H0 fp=>⟨(sg_tup rfl (sgs_cons (sg_name (i:=0) (show (["_law_j","_law_e","_law_k","_law_n"]:List Str).Nodup by decide +kernel) rfl (Or.inl rfl)) (sgs_cons (sg_name (i:=1) (show (["_law_j","_law_e","_law_k","_law_n"]:List Str).Nodup by decide +kernel) rfl (Or.inl rfl)) sgs_nil))),sf_nil,(se_tup (sa_cons se_str (sa_cons (sv 2) (sa_cons (sv 3) (sa_cons (sv 0) (sa_cons (sv 1) sa_nil))))))⟩)
     exact sa_nil
    exact ss_nil
   exact ss_nil
  refine ss_one ?_
  refine s_ret ?_
  exact sv 7) imp_q14
noncomputable def b_q26:DS:=(dSeq (dAsg (dCal S_q23 (dCons (dVar 1) (dCons (dOp pIx (dVar 2) (dC (.int 1))) (dCons (dC (.str "within")) dNil)))) (dName 3))
  (dSeq (dIfS (dTst (dOp (pIs false) (dVar 3) (dC .non))) (dRet (dC .non)) dNext)
  (dSeq (dAsg (dOp pIx (dVar 3) (dC (.int 1))) (dName 4))
  (dSeq (dAsg (dCal S_q27 (dCons (dVar 0) (dCons (dTup (dCons (dVar 4) (dCons (dOp pIx (dVar 3) (dC (.int 3))) (dCons (dOp pIx (dVar 3) (dC (.int 4))) dNil)))) (dCons (dCal S_q32 (dCons (dVar 2) dNil)) dNil)))) (dName 5))
  (dSeq (dIfS (dTst (dOp (pIs false) (dVar 5) (dC .non))) (dRet (dC .non)) dNext)
  (dRet (dTup (dCons (dC (.str "within")) (dCons (dVar 4) (dCons (dOp pIx (dVar 3) (dC (.int 2))) (dCons (dOp pIx (dVar 5) (dC (.int 2))) (dCons (dOp pIx (dVar 2) (dC (.int 3))) (dCons (dOp pPlus (dOp pIx (dVar 3) (dC (.int 5))) (dOp pIx (dVar 5) (dC (.int 3)))) dNil)))))))))))))
noncomputable def S_q26:DSp:=fun ds h Q=>∃ (c a:D) (C:Chart) (cs:List Clm) (st:Nat) (w:Mv) (k n e:Int),ds=[c,a,rD (.mv w k n e)]∧w ≠ .inn∧ChD h c C∧WF C∧lsOf h a=some (cs.map clD)∧(∀ c ∈ cs,clOk C c)∧Q (oD clD (claimOf C st cs (.mv w k n e))) h
theorem imp_q26:∀ ds h Q,S_q26 ds h Q→runD 6 b_q26 ds h Q:=by
 rintro ds h Q ⟨c,a,C,cs,st,w,k,n,e,rfl,nw,hc,wf,ha,ok,q⟩
 delta runD runX b_q26;simp only [List.map_cons,List.map_nil,List.cons_append,List.nil_append,List.length_cons,List.length_nil,List.replicate,Nat.reduceSub,Nat.reduceAdd,Nat.zero_add,Nat.sub_self]
 (try dsimp only);refine seq_intro fun N hN=>?_
 simp only [rD,VV]
 refine ⟨a,cs,k,true,rfl,ha,?_⟩
 subst hN
 (try dsimp only);refine seq_intro fun N hN=>?_
 cases hb:aheadW cs k true with
 |none =>
  have eq:claimOf C st cs (.mv w k n e)=none:=by
   have hn:=aheadW_Tn hb
   cases w with
   |inn=>exact absurd rfl nw
   |_ =>
    show (match ahead cs k with | some (.within f a p d c)=>_ | _=>none)=none
    cases q2:ahead cs k with
    |none=>rfl
    |some x =>
     cases x with
     |within f a p d c=>exact absurd q2 (hn f a p d c)
     |«at» f p d c=>rfl
  rw [eq] at q
  simp only [oD,VV]
  exact q
 |some b =>
  obtain ⟨f,a',p,d,x,rfl,hk⟩:=aheadW_T hb
  obtain ⟨F,hF,o1,o2,o3⟩:=ahead_ok ok hk
  simp only [oD,clD,VV]
  subst hN
  (try dsimp only);refine seq_intro fun N hN=>?_
  simp only [VV]
  subst hN
  (try dsimp only);refine seq_intro fun N hN=>?_
  simp only [VV]
  refine ⟨_,_,_,_,rfl,c,C,f,p,d,F,w,n,e,rfl,hc,wf,hF,o3,?_⟩
  have eq:claimOf C st cs (.mv w k n e)=(takes C f p d w n e).map fun E=>.within f a' E.q e.toNat (x + E.cost):=by
   cases w with
   |inn=>exact absurd rfl nw
   |_ =>
    show (match ahead cs k with | some (.within f a p d c)=>_ | _=>none)=_
    rw [hk]
  rw [eq] at q
  subst hN
  (try dsimp only);refine seq_intro fun N hN=>?_
  cases ht:takes C f p d w n e with
  |none=>rw [ht] at q;simp only [oD,VV];exact q
  |some E =>
   rw [ht] at q
   simp only [oD,eD_non,VV]
   subst hN
   simp only [eD_2,eD_3,VV]
   have he:0 ≤ e:=(takes_inv ht).2.2.2.2
   have q:Q (.tup [.str "within",nD f,nD a',nD E.q,.int ((e.toNat:Nat):Int),.int ((x + E.cost:Nat):Int)]) h:=q
   rw [Int.toNat_of_nonneg he,Int.natCast_add] at q
   exact q
theorem ok_q26{f:Addr}{fd:FuncData}(F:Fun K "edge_claim" "edge_claim" s_q26 f fd)(T:Txt P w K mg)(C_q23:Cal P w K mg base 1 "claim_ahead" ["ahead","k","sort"] (spD K 3 S_q23))(C_q32:Cal P w K mg base 1 "move_of" ["row"] (spD K 1 S_q32))(C_q27:Cal P w K mg base 3 "edge_taken" ["chart","here","move"] (spD K 3 S_q27)):FnOk P w K mg base CX0 4 f fd ["chart","ahead","row"] (spD K 3 S_q26) :=
 fn_ok (k:=3) (b:=b_q26) F sc_q26 (fun cdv A outer s H E hr=>by
  refine ss_cons ?_ ?_
  ·refine s_set (i:=3) ?_ ?_ ?_ ?_
   ·exact sc_q26.nd
   ·exact rfl
   ·exact Or.inl rfl
   exact se_cal C_q23 (hr.mono (by decide)) rfl (sa_cons (sv 1) (sa_cons (se_ix ok_ix (sv 2) se_int (fun _ _=>rfl)) (sa_cons se_str sa_nil)))
  refine ss_cons ?_ ?_
  ·refine s_if ?_ ?_ ?_
   ·exact st_cmp ok_is (sv 3) se_non (nomark _)
   ·refine ss_one ?_
    refine s_ret ?_
    exact se_non
   exact ss_nil
  refine ss_cons ?_ ?_
  ·refine s_set (i:=4) ?_ ?_ ?_ ?_
   ·exact sc_q26.nd
   ·exact rfl
   ·exact Or.inl rfl
   exact se_ix ok_ix (sv 3) se_int (fun _ _=>rfl)
  refine ss_cons ?_ ?_
  ·refine s_set (i:=5) ?_ ?_ ?_ ?_
   ·exact sc_q26.nd
   ·exact rfl
   ·exact Or.inl rfl
   exact se_cal C_q27 (hr.mono (by decide)) rfl (sa_cons (sv 0) (sa_cons (se_tup (sa_cons (sv 4) (sa_cons (se_ix ok_ix (sv 3) se_int (fun _ _=>rfl)) (sa_cons (se_ix ok_ix (sv 3) se_int (fun _ _=>rfl)) sa_nil)))) (sa_cons (se_cal C_q32 (hr.mono (by decide)) rfl (sa_cons (sv 2) sa_nil)) sa_nil)))
  refine ss_cons ?_ ?_
  ·refine s_if ?_ ?_ ?_
   ·exact st_cmp ok_is (sv 5) se_non (nomark _)
   ·refine ss_one ?_
    refine s_ret ?_
    exact se_non
   exact ss_nil
  refine ss_one ?_
  refine s_ret ?_
  refine se_tup (n:=6) ?_
  refine sa_cons ?_ ?_
  ·exact se_str
  refine sa_cons ?_ ?_
  ·exact sv 4
  refine sa_cons ?_ ?_
  ·exact se_ix ok_ix (sv 3) se_int (fun _ _=>rfl)
  refine sa_cons ?_ ?_
  ·exact se_ix ok_ix (sv 5) se_int (fun _ _=>rfl)
  refine sa_cons ?_ ?_
  ·exact se_ix ok_ix (sv 2) se_int (fun _ _=>rfl)
  refine sa_cons ?_ ?_
  ·exact se_op ok_plus (se_ix ok_ix (sv 3) se_int (fun _ _=>rfl)) (se_ix ok_ix (sv 5) se_int (fun _ _=>rfl))
  exact sa_nil) imp_q26
noncomputable def b_q33:DS:=(dSeq (dAsg (dCal S_q23 (dCons (dVar 1) (dCons (dOp pIx (dVar 2) (dC (.int 1))) (dCons (dC (.str "within")) dNil)))) (dName 3))
  (dSeq (dAsg (dCal S_q23 (dCons (dVar 1) (dCons (dOp pIx (dVar 2) (dC (.int 3))) (dCons (dC (.str "within")) dNil)))) (dName 4))
  (dSeq (dIfS (dOr (dTst (dOp (pIs false) (dVar 3) (dC .non))) (dTst (dOp (pIs false) (dVar 4) (dC .non)))) (dRet (dC .non)) dNext)
  (dSeq (dAsg (dOp pIx (dVar 3) (dC (.int 1))) (dName 5))
  (dSeq (dAsg (dCal S_q27 (dCons (dVar 0) (dCons (dTup (dCons (dVar 5) (dCons (dOp pIx (dVar 3) (dC (.int 3))) (dCons (dOp pIx (dVar 3) (dC (.int 4))) dNil)))) (dCons (dTup (dCons (dC (.str "in")) (dCons (dOp pIx (dVar 2) (dC (.int 2))) (dCons (dOp pIx (dVar 4) (dC (.int 2))) dNil)))) dNil)))) (dName 6))
  (dSeq (dIfS (dOr (dTst (dOp (pIs false) (dVar 6) (dC .non))) (dOr (dTst (dOp (pEq true) (dOp pIx (dVar 6) (dC (.int 4))) (dOp pIx (dVar 4) (dC (.int 1))))) (dTst (dOp (pEq true) (dOp pIx (dVar 4) (dC (.int 3))) (dCal S_q28 (dCons (dVar 0) (dCons (dOp pIx (dVar 4) (dC (.int 1))) dNil))))))) (dRet (dC .non)) dNext)
  (dSeq (dIfS (dNot (dTr (dCal S_q22 (dCons (dOp pIx (dVar 6) (dC (.int 6))) (dCons (dOp pIx (dVar 4) (dC (.int 4))) (dCons (dOp pIx (dVar 2) (dC (.int 4))) dNil)))))) (dRet (dC .non)) dNext)
  (dRet (dTup (dCons (dC (.str "within")) (dCons (dVar 5) (dCons (dOp pIx (dVar 3) (dC (.int 2))) (dCons (dOp pIx (dVar 6) (dC (.int 2))) (dCons (dOp pIx (dVar 2) (dC (.int 4))) (dCons (dOp pPlus (dOp pPlus (dOp pIx (dVar 3) (dC (.int 5))) (dOp pIx (dVar 6) (dC (.int 3)))) (dOp pIx (dVar 4) (dC (.int 5)))) dNil)))))))))))))))
noncomputable def S_q33:DSp:=fun ds h Q=>∃ (c a:D) (C:Chart) (cs:List Clm) (st:Nat) (k n j e:Int),ds=[c,a,rD (.short k n j e)]∧ChD h c C∧WF C∧lsOf h a=some (cs.map clD)∧(∀ c ∈ cs,clOk C c)∧Q (oD clD (claimOf C st cs (.short k n j e))) h
theorem imp_q33:∀ ds h Q,S_q33 ds h Q→runD 7 b_q33 ds h Q:=by
 rintro ds h Q ⟨c,a,C,cs,st,k,n,j,e,rfl,hc,wf,ha,ok,q⟩
 delta runD runX b_q33;simp only [List.map_cons,List.map_nil,List.cons_append,List.nil_append,List.length_cons,List.length_nil,List.replicate,Nat.reduceSub,Nat.reduceAdd,Nat.zero_add,Nat.sub_self]
 (try dsimp only);refine seq_intro fun N hN=>?_
 simp only [rD,VV]
 refine ⟨a,cs,k,true,rfl,ha,?_⟩
 subst hN
 (try dsimp only);refine seq_intro fun N hN=>?_
 simp only [VV]
 refine ⟨a,cs,j,true,rfl,ha,?_⟩
 subst hN
 (try dsimp only);refine seq_intro fun N hN=>?_
 cases hb:aheadW cs k true with
 |none =>
  have eq:claimOf C st cs (.short k n j e)=none:=by
   have hn:=aheadW_Tn hb
   show (match ahead cs k,ahead cs j with | some (.within f a p d c),some (.within g b x y c')=>_ | _,_=>none)=none
   cases q2:ahead cs k with
   |none=>rfl
   |some x =>
    cases x with
    |within f a p d c=>exact absurd q2 (hn f a p d c)
    |«at» f p d c=>rfl
  rw [eq] at q
  simp only [oD,VV]
  exact q
 |some b =>
  obtain ⟨f,a',p,d,x,rfl,hk⟩:=aheadW_T hb
  obtain ⟨F,hF,o1,o2,o3⟩:=ahead_ok ok hk
  cases hb2:aheadW cs j true with
  |none =>
   have eq:claimOf C st cs (.short k n j e)=none:=by
    have hn:=aheadW_Tn hb2
    show (match ahead cs k,ahead cs j with | some (.within f a p d c),some (.within g b x y c')=>_ | _,_=>none)=none
    rw [hk]
    cases q2:ahead cs j with
    |none=>rfl
    |some x =>
     cases x with
     |within f a p d c=>exact absurd q2 (hn f a p d c)
     |«at» f p d c=>rfl
   rw [eq] at q
   simp only [oD,clD,VV]
   exact q
  |some b2 =>
   obtain ⟨g,b,px,y,x',rfl,hk2⟩:=aheadW_T hb2
   obtain ⟨G,hG,p1,p2,p3⟩:=ahead_ok ok hk2
   simp only [oD,clD,VV]
   subst hN
   (try dsimp only);refine seq_intro fun N hN=>?_
   simp only [VV]
   subst hN
   (try dsimp only);refine seq_intro fun N hN=>?_
   simp only [VV]
   refine ⟨c,C,f,p,d,F,.inn,n,(b:Int),rfl,hc,wf,hF,o3,?_⟩
   subst hN
   (try dsimp only);refine seq_intro fun N hN=>?_
   have eq:claimOf C st cs (.short k n j e)=(takes C f p d .inn n b).bind fun E=>match E.k with
     |.call g' _ bk _=>(C[g']?).bind fun G=>if g'=g∧px + 1=G.places∧br bk y e=true then some (.within f a' E.q e.toNat (x + E.cost + x')) else none
     |_=>none:=by
    show (match ahead cs k,ahead cs j with | some (.within f a p d c),some (.within g b x y c')=>_ | _,_=>none)=_
    rw [hk,hk2] <;> rfl
   rw [eq] at q
   cases ht:takes C f p d .inn n b with
   |none=>rw [ht] at q;simp only [oD,VV];exact q
   |some E =>
    rw [ht] at q
    obtain ⟨F',g',i,bk,o,G',hF',hk',hG',t1,t2,t3,_,_,_,_⟩:=takes_in wf ht
    obtain ⟨ep,eq',ec,ek⟩:=E
    dsimp only at hk'
    subst hk'
    rw [hF] at hF';cases hF'
    have q:Q (oD clD ((C[g']?).bind fun G=>if g'=g∧px + 1=G.places∧br bk y e=true then some (.within f a' eq' e.toNat (x + ec + x')) else none)) h:=q
    rw [hG'] at q
    have q:Q (oD clD (if g'=g∧px + 1=G'.places∧br bk y e=true then some (.within f a' eq' e.toNat (x + ec + x')) else none)) h:=q
    have e1:((g':Int) == (g:Int))=decide (g'=g):=by first | exact beqN _ _ | exact beqP _ _ | exact beqS _ _
    simp only [oD,eD,e1,VV]
    by_cases h1:g'=g
    ·subst h1
     rw [hG] at hG';cases hG'
     simp only [VV]
     refine ⟨c,C,g',G,rfl,hc,hG,?_⟩
     have e2:((px:Int) == (G.places:Int) - 1)=decide (px + 1=G.places):=by first | exact beqN _ _ | exact beqP _ _ | exact beqS _ _
     simp only [e2,VV]
     by_cases h2:px + 1=G.places
     ·simp only [h2,VV]
      subst hN
      (try dsimp only);refine seq_intro fun N hN=>?_
      simp only [VV]
      refine ⟨bk,_,_,y,e,rfl,t2,(wf.fn f F hF).2.2.2.1,p3,?_⟩
      by_cases h3:br bk y e=true
      ·rw [if_pos ⟨rfl,h2,h3⟩] at q
       simp only [h3,VV]
       subst hN
       simp only [VV]
       have he:0 ≤ e:=by unfold br at h3;rw [Bool.and_eq_true] at h3;exact of_decide_eq_true h3.1
       have q:Q (.tup [.str "within",nD f,nD a',nD eq',.int ((e.toNat:Nat):Int),.int ((x + ec + x':Nat):Int)]) h:=q
       rw [Int.toNat_of_nonneg he,Int.natCast_add,Int.natCast_add] at q
       exact q
      ·rw [if_neg (fun z=>h3 z.2.2)] at q
       simp only [h3,VV]
       exact q
     ·rw [if_neg (fun z=>h2 z.2.1)] at q
      simp only [h2,VV]
      exact q
    ·rw [if_neg (fun z=>h1 z.1)] at q
     simp only [h1,VV]
     exact q
theorem ok_q33{f:Addr}{fd:FuncData}(F:Fun K "short_claim" "short_claim" s_q33 f fd)(T:Txt P w K mg)(C_q23:Cal P w K mg base 1 "claim_ahead" ["ahead","k","sort"] (spD K 3 S_q23))(C_q27:Cal P w K mg base 3 "edge_taken" ["chart","here","move"] (spD K 3 S_q27))(C_q28:Cal P w K mg base 1 "exit_of" ["chart","f"] (spD K 2 S_q28))(C_q22:Cal P w K mg base 2 "brings" ["table","d","e"] (spD K 3 S_q22)):FnOk P w K mg base CX0 4 f fd ["chart","ahead","row"] (spD K 3 S_q33) :=
 fn_ok (k:=3) (b:=b_q33) F sc_q33 (fun cdv A outer s H E hr=>by
  refine ss_cons ?_ ?_
  ·refine s_set (i:=3) ?_ ?_ ?_ ?_
   ·exact sc_q33.nd
   ·exact rfl
   ·exact Or.inl rfl
   exact se_cal C_q23 (hr.mono (by decide)) rfl (sa_cons (sv 1) (sa_cons (se_ix ok_ix (sv 2) se_int (fun _ _=>rfl)) (sa_cons se_str sa_nil)))
  refine ss_cons ?_ ?_
  ·refine s_set (i:=4) ?_ ?_ ?_ ?_
   ·exact sc_q33.nd
   ·exact rfl
   ·exact Or.inl rfl
   exact se_cal C_q23 (hr.mono (by decide)) rfl (sa_cons (sv 1) (sa_cons (se_ix ok_ix (sv 2) se_int (fun _ _=>rfl)) (sa_cons se_str sa_nil)))
  refine ss_cons ?_ ?_
  ·refine s_if ?_ ?_ ?_
   ·exact st_w (sw_or (st_cmp ok_is (sv 3) se_non (nomark _)) (sw_or1 (st_cmp ok_is (sv 4) se_non (nomark _))))
   ·refine ss_one ?_
    refine s_ret ?_
    exact se_non
   exact ss_nil
  refine ss_cons ?_ ?_
  ·refine s_set (i:=5) ?_ ?_ ?_ ?_
   ·exact sc_q33.nd
   ·exact rfl
   ·exact Or.inl rfl
   exact se_ix ok_ix (sv 3) se_int (fun _ _=>rfl)
  refine ss_cons ?_ ?_
  ·refine s_set (i:=6) ?_ ?_ ?_ ?_
   ·exact sc_q33.nd
   ·exact rfl
   ·exact Or.inl rfl
   exact se_cal C_q27 (hr.mono (by decide)) rfl (sa_cons (sv 0) (sa_cons (se_tup (sa_cons (sv 5) (sa_cons (se_ix ok_ix (sv 3) se_int (fun _ _=>rfl)) (sa_cons (se_ix ok_ix (sv 3) se_int (fun _ _=>rfl)) sa_nil)))) (sa_cons (se_tup (sa_cons se_str (sa_cons (se_ix ok_ix (sv 2) se_int (fun _ _=>rfl)) (sa_cons (se_ix ok_ix (sv 4) se_int (fun _ _=>rfl)) sa_nil)))) sa_nil)))
  refine ss_cons ?_ ?_
  ·refine s_if ?_ ?_ ?_
   ·exact st_w (sw_or (st_cmp ok_is (sv 6) se_non (nomark _)) (sw_or (st_cmp (ok_ne hr.units) (se_ix ok_ix (sv 6) se_int (fun _ _=>rfl)) (se_ix ok_ix (sv 4) se_int (fun _ _=>rfl)) (nomark _)) (sw_or1 (st_cmp (ok_ne hr.units) (se_ix ok_ix (sv 4) se_int (fun _ _=>rfl)) (se_cal C_q28 (hr.mono (by decide)) rfl (sa_cons (sv 0) (sa_cons (se_ix ok_ix (sv 4) se_int (fun _ _=>rfl)) sa_nil))) (nomark _)))))
   ·refine ss_one ?_
    refine s_ret ?_
    exact se_non
   exact ss_nil
  refine ss_cons ?_ ?_
  ·refine s_if ?_ ?_ ?_
   ·exact st_not (st_truth (se_cal C_q22 (hr.mono (by decide)) rfl (sa_cons (se_ix ok_ix (sv 6) se_int (fun _ _=>rfl)) (sa_cons (se_ix ok_ix (sv 4) se_int (fun _ _=>rfl)) (sa_cons (se_ix ok_ix (sv 2) se_int (fun _ _=>rfl)) sa_nil)))))
   ·refine ss_one ?_
    refine s_ret ?_
    exact se_non
   exact ss_nil
  refine ss_one ?_
  refine s_ret ?_
  refine se_tup (n:=6) ?_
  refine sa_cons ?_ ?_
  ·exact se_str
  refine sa_cons ?_ ?_
  ·exact sv 5
  refine sa_cons ?_ ?_
  ·exact se_ix ok_ix (sv 3) se_int (fun _ _=>rfl)
  refine sa_cons ?_ ?_
  ·exact se_ix ok_ix (sv 6) se_int (fun _ _=>rfl)
  refine sa_cons ?_ ?_
  ·exact se_ix ok_ix (sv 2) se_int (fun _ _=>rfl)
  refine sa_cons ?_ ?_
  ·exact se_op ok_plus (se_op ok_plus (se_ix ok_ix (sv 3) se_int (fun _ _=>rfl)) (se_ix ok_ix (sv 6) se_int (fun _ _=>rfl))) (se_ix ok_ix (sv 4) se_int (fun _ _=>rfl))
  exact sa_nil) imp_q33
noncomputable def b_q30:DS:=(dSeq (dAsg (dCal S_q23 (dCons (dVar 1) (dCons (dOp pIx (dVar 2) (dC (.int 1))) (dCons (dC (.str "at")) dNil)))) (dName 3))
  (dSeq (dIfS (dTst (dOp (pIs false) (dVar 3) (dC .non))) (dRet (dC .non)) dNext)
  (dSeq (dAsg (dCal S_q27 (dCons (dVar 0) (dCons (dTup (dCons (dOp pIx (dVar 3) (dC (.int 1))) (dCons (dOp pIx (dVar 3) (dC (.int 2))) (dCons (dOp pIx (dVar 3) (dC (.int 3))) dNil)))) (dCons (dCal S_q32 (dCons (dVar 2) dNil)) dNil)))) (dName 4))
  (dRet (dIf (dTst (dOp (pIs false) (dVar 4) (dC .non))) (dC .non) (dTup (dCons (dC (.str "at")) (dCons (dOp pIx (dVar 4) (dC (.int 4))) (dCons (dC (.int 0)) (dCons (dOp pIx (dVar 2) (dC (.int 3))) (dCons (dOp pPlus (dOp pIx (dVar 3) (dC (.int 4))) (dOp pIx (dVar 4) (dC (.int 3)))) dNil)))))))))))
noncomputable def S_q30:DSp:=fun ds h Q=>∃ (c a:D) (C:Chart) (cs:List Clm) (st:Nat) (k n e:Int),ds=[c,a,rD (.mv .inn k n e)]∧ChD h c C∧WF C∧lsOf h a=some (cs.map clD)∧(∀ c ∈ cs,clOk C c)∧Q (oD clD (claimOf C st cs (.mv .inn k n e))) h
theorem imp_q30:∀ ds h Q,S_q30 ds h Q→runD 5 b_q30 ds h Q:=by
 rintro ds h Q ⟨c,a,C,cs,st,k,n,e,rfl,hc,wf,ha,ok,q⟩
 delta runD runX b_q30;simp only [List.map_cons,List.map_nil,List.cons_append,List.nil_append,List.length_cons,List.length_nil,List.replicate,Nat.reduceSub,Nat.reduceAdd,Nat.zero_add,Nat.sub_self]
 (try dsimp only);refine seq_intro fun N hN=>?_
 simp only [rD,VV]
 refine ⟨a,cs,k,false,rfl,ha,?_⟩
 subst hN
 (try dsimp only);refine seq_intro fun N hN=>?_
 cases hb:aheadW cs k false with
 |none =>
  have eq:claimOf C st cs (.mv .inn k n e)=none:=by
   have hn:=aheadW_Fn hb
   show (match ahead cs k with | some (.at f p d c)=>_ | _=>none)=none
   cases q2:ahead cs k with
   |none=>rfl
   |some x =>
    cases x with
    |within f a p d c=>rfl
    |«at» f p d c=>exact absurd q2 (hn f p d c)
  rw [eq] at q
  simp only [oD,VV]
  exact q
 |some b =>
  obtain ⟨f,p,d,x,rfl,hk⟩:=aheadW_F hb
  obtain ⟨F,hF,o1,o2⟩:=ahead_ok ok hk
  simp only [oD,clD,VV]
  subst hN
  (try dsimp only);refine seq_intro fun N hN=>?_
  simp only [VV]
  refine ⟨_,_,_,_,rfl,c,C,f,p,d,F,.inn,n,e,rfl,hc,wf,hF,o2,?_⟩
  have eq:claimOf C st cs (.mv .inn k n e)=(takes C f p d .inn n e).bind fun E=>match E.k with | .call g _ _ _=>some (.at g 0 e.toNat (x + E.cost)) | _=>none:=by
   show (match ahead cs k with | some (.at f p d c)=>_ | _=>none)=_
   rw [hk] <;> rfl
  rw [eq] at q
  subst hN
  cases ht:takes C f p d .inn n e with
  |none=>rw [ht] at q;simp only [oD,VV];exact q
  |some E =>
   rw [ht] at q
   obtain ⟨F',g,i,b,o,G,_,hk',_,_,_,_,_,_,_,he⟩:=takes_in wf ht
   obtain ⟨ep,eq',ec,ek⟩:=E
   dsimp only at hk'
   subst hk'
   simp only [oD,eD,VV]
   have q:Q (.tup [.str "at",nD g,nD 0,.int ((e.toNat:Nat):Int),.int ((x + ec:Nat):Int)]) h:=q
   rw [Int.toNat_of_nonneg he,Int.natCast_add] at q
   exact q
theorem ok_q30{f:Addr}{fd:FuncData}(F:Fun K "in_claim" "in_claim" s_q30 f fd)(T:Txt P w K mg)(C_q23:Cal P w K mg base 1 "claim_ahead" ["ahead","k","sort"] (spD K 3 S_q23))(C_q32:Cal P w K mg base 1 "move_of" ["row"] (spD K 1 S_q32))(C_q27:Cal P w K mg base 3 "edge_taken" ["chart","here","move"] (spD K 3 S_q27)):FnOk P w K mg base CX0 4 f fd ["chart","ahead","row"] (spD K 3 S_q30) :=
 fn_ok (k:=3) (b:=b_q30) F sc_q30 (fun cdv A outer s H E hr=>by
  refine ss_cons ?_ ?_
  ·refine s_set (i:=3) ?_ ?_ ?_ ?_
   ·exact sc_q30.nd
   ·exact rfl
   ·exact Or.inl rfl
   exact se_cal C_q23 (hr.mono (by decide)) rfl (sa_cons (sv 1) (sa_cons (se_ix ok_ix (sv 2) se_int (fun _ _=>rfl)) (sa_cons se_str sa_nil)))
  refine ss_cons ?_ ?_
  ·refine s_if ?_ ?_ ?_
   ·exact st_cmp ok_is (sv 3) se_non (nomark _)
   ·refine ss_one ?_
    refine s_ret ?_
    exact se_non
   exact ss_nil
  refine ss_cons ?_ ?_
  ·refine s_set (i:=4) ?_ ?_ ?_ ?_
   ·exact sc_q30.nd
   ·exact rfl
   ·exact Or.inl rfl
   exact se_cal C_q27 (hr.mono (by decide)) rfl (sa_cons (sv 0) (sa_cons (se_tup (sa_cons (se_ix ok_ix (sv 3) se_int (fun _ _=>rfl)) (sa_cons (se_ix ok_ix (sv 3) se_int (fun _ _=>rfl)) (sa_cons (se_ix ok_ix (sv 3) se_int (fun _ _=>rfl)) sa_nil)))) (sa_cons (se_cal C_q32 (hr.mono (by decide)) rfl (sa_cons (sv 2) sa_nil)) sa_nil)))
  refine ss_one ?_
  refine s_ret ?_
  exact se_if (st_cmp ok_is (sv 4) se_non (nomark _)) se_non (se_tup (sa_cons se_str (sa_cons (se_ix ok_ix (sv 4) se_int (fun _ _=>rfl)) (sa_cons se_int (sa_cons (se_ix ok_ix (sv 2) se_int (fun _ _=>rfl)) (sa_cons (se_op ok_plus (se_ix ok_ix (sv 3) se_int (fun _ _=>rfl)) (se_ix ok_ix (sv 4) se_int (fun _ _=>rfl))) sa_nil))))))) imp_q30
noncomputable def b_q2:DS:=(dSeq (dAsg (dTk dNil) (dName 5))
  (dSeq (dIfS (dTst (dOp (pEq false) (dOp pMod (dOp pDiv (dCal S_q1 (dCons (dVar 0) (dCons (dC (.int 0)) dNil))) (dC (.int 7))) (dC (.int 8))) (dC (.int 1)))) (dAsg (dC (.int 6)) (dName 2)) dNext)
  (dSeq (dFor (dIRange (dCons (dOp pPlus (dC (.int 1)) (dOp pMod (dCal S_q1 (dCons (dVar 0) (dCons (dC (.int 0)) dNil))) (dVar 2))) dNil)) (dName 6) (dSeq (dAsg (dOp pDiv (dCal S_q1 (dCons (dVar 0) (dCons (dOp pPlus (dC (.int 1)) (dVar 6)) dNil))) (dC (.int 2))) (dName 7))
  (dDrop (dAppend (dVar 5) (dCons (dTup (dCons (dOp pPlus (dC (.int 1)) (dOp pMod (dVar 7) (dVar 3))) (dCons (dOp pPlus (dC (.int 1)) (dOp pMod (dOp pDiv (dVar 7) (dC (.int 16))) (dVar 4))) dNil))) dNil)))))
  (dSeq (dAsg (dV (dComp [none] (dISeq (dVar 5)) (dName 0) dNoIf (dTk dNil))) (dName 8))
  (dSeq (dFor (dIEnum (dCons (dSl (dVar 0) (dPart (dVar 1)) (dPart (dOp pPlus (dVar 1) (dC (.int 14))))) dNil)) (dUnp 2 (dGCons (dName 9) (dGCons (dName 7) dGNil))) (dSeq (dAsg (dOp pMod (dOp pPlus (dOp pDiv (dVar 7) (dC (.int 5))) (dVar 9)) (dCB pLen (dCons (dVar 5) dNil))) (dName 6))
  (dDrop (dAppend (dOp pIx (dVar 8) (dVar 6)) (dCons (dCal S_q7 (dCons (dVar 7) (dCons (dVar 5) (dCons (dVar 6) (dCons (dC (.int 2)) dNil))))) dNil)))))
  (dRet (dV (dComp [none,some 5,some 8] (dIRange (dCons (dCB pLen (dCons (dVar 5) dNil)) dNil)) (dName 0) dNoIf (dTup (dCons (dOp pIx (dOp pIx (dVar 1) (dVar 0)) (dC (.int 0))) (dCons (dOp pIx (dOp pIx (dVar 1) (dVar 0)) (dC (.int 1))) (dCons (dOp pIx (dVar 2) (dVar 0)) dNil))))))))))))
noncomputable def eO(l:List Edge):O:=.lst (l.map eD)
theorem tl_get{h:Hh}{o:O}{es:List (List Edge)}{f:Nat}{l:List Edge}(e:es[f]?=some l):(h ++ (o :: es.map eO))[h.length + 1 + f]?=some (eO l):=by
 rw [List.getElem?_append_right (by first | decide | omega),show h.length + 1 + f - h.length=f + 1 by first | decide | omega]
 show (o :: es.map eO)[f + 1]?=_
 rw [List.getElem?_cons_succ,List.getElem?_map,e];rfl
theorem tl_set{h:Hh}{o:O}{es:List (List Edge)}{f:Nat}{l:List Edge}:(h ++ (o :: es.map eO)).set (h.length + 1 + f) (eO l)=h ++ (o :: (es.set f l).map eO):=by
 rw [List.set_append_right _ _ (by first | decide | omega),show h.length + 1 + f - h.length=f + 1 by first | decide | omega]
 show h ++ (o :: es.map eO).set (f + 1) (eO l)=_
 rw [List.set_cons_succ,List.map_set]
theorem tl_hd{h:Hh}{o:O}{g:Hh}:(h ++ (o :: g))[h.length]?=some o:=by
 rw [List.getElem?_append_right (Nat.le_refl _)];simp
theorem cut_ints(ns:List Int)(lo hi:Option Int):∃ ms:List Int,cutD (ns.map D.int) lo hi=ms.map D.int∧ms.length ≤ ns.length:=by
 refine ⟨(ns.drop (HT.sIx ns.length 0 lo)).take (HT.sIx ns.length ns.length hi - HT.sIx ns.length 0 lo),?_,?_⟩
 ·unfold cutD;rw [List.length_map,← List.map_drop,← List.map_take]
 ·rw [List.length_take,List.length_drop];omega
noncomputable def mkC(hs:Hd)(es:List (List Edge)):Chart:=(hs.zip es).map fun x=>⟨x.1.1,x.1.2,x.2⟩
theorem mkC_get{hs:Hd}{es:List (List Edge)}(hl:es.length=hs.length){f:Nat}{F:Fn}(e:(mkC hs es)[f]?=some F):∃ x l,hs[f]?=some x∧es[f]?=some l∧F=⟨x.1,x.2,l⟩:=by
 unfold mkC at e
 rw [List.getElem?_map] at e
 cases q:(hs.zip es)[f]? with
 |none=>rw [q] at e;cases e
 |some y =>
  rw [q] at e
  cases e
  rw [List.getElem?_zip_eq_some] at q
  exact ⟨y.1,y.2,q.1,q.2,rfl⟩
theorem mkC_at{hs:Hd}{es:List (List Edge)}{f:Nat}{x:Nat×Nat}{l:List Edge}(h1:hs[f]?=some x)(h2:es[f]?=some l):(mkC hs es)[f]?=some ⟨x.1,x.2,l⟩:=by
 unfold mkC
 rw [List.getElem?_map,List.getElem?_zip_eq_some (z:=(x,l)) |>.mpr ⟨h1,h2⟩];rfl
theorem mkC_wf{hs:Hd}{es:List (List Edge)}(ok:hOk hs)(h1:1 ≤ hs.length)(h6:hs.length ≤ 6)(hl:es.length=hs.length)(he:∀ (f:Nat) (x:Nat×Nat) (l:List Edge),hs[f]?=some x→es[f]?=some l→l.length ≤ 100∧∀ e ∈ l,eOkH hs x e):WF (mkC hs es):=by
 have len:(mkC hs es).length=hs.length:=by unfold mkC;rw [List.length_map,List.length_zip,hl];omega
 refine ⟨by first | decide | omega,by first | decide | omega,fun f F hF=>?_⟩
 obtain ⟨x,l,hx,hl',rfl⟩:=mkC_get hl hF
 obtain ⟨o1,o2,o3,o4⟩:=ok f x hx
 obtain ⟨o5,o6⟩:=he f x l hx hl'
 refine ⟨o1,o2,o3,o4,o5,fun e hm=>?_⟩
 obtain ⟨p1,p2,p3,p4,p5⟩:=o6 e hm
 refine ⟨p1,p2,p3,p4,?_⟩
 obtain ⟨a,b,c,k⟩:=e
 cases k with
 |step t=>exact p5
 |call g i b o =>
  obtain ⟨y,hy,t1,t2,t3⟩:=p5
  have hg:g < es.length:=by rw [hl];exact (List.getElem?_eq_some_iff.mp hy).1
  exact ⟨⟨y.1,y.2,es[g]⟩,mkC_at hy (List.getElem?_eq_getElem hg),t1,t2,t3⟩
noncomputable def S_q2:DSp:=fun ds h Q=>∃ (ns:List Int) (at' many wide deep:Nat),ds=[.scr (ns.map .int),nD at',nD many,nD wide,nD deep]∧ns.length ≤ 63∧(∀ x ∈ ns,Builtin.Int.intBits x ≤ 1048576)∧1 ≤ many∧many ≤ 6∧1 ≤ wide∧wide ≤ 10∧1 ≤ deep∧deep ≤ 6∧∀ C,WF C→Q (cD C) h
theorem imp_q2:∀ ds h Q,S_q2 ds h Q→runD 10 b_q2 ds h (Dr h Q):=by
 rintro ds h Q ⟨ns,at',many,wide,deep,rfl,hl,hb,m1,m6,w1,w10,d1,d6,q⟩
 delta runD runX b_q2;simp only [List.map_cons,List.map_nil,List.cons_append,List.nil_append,List.length_cons,List.length_nil,List.replicate,Nat.reduceSub,Nat.reduceAdd,Nat.zero_add,Nat.sub_self]
 (try dsimp only);refine seq_intro fun N hN=>?_
 simp only [VV]
 subst hN
 (try dsimp only);refine seq_intro fun N hN=>?_
 have rest:∀ many:Nat,1 ≤ many→many ≤ 6→N [some (.scr (ns.map .int)),some (nD at'),some (nD many),some (nD wide),some (nD deep),some (.ref h.length),none,none,none,none] (h ++ [.lst []]):=fun many m1 m6=>by
  subst hN
  (try dsimp only);refine seq_intro fun N hN=>?_
  simp only [VV]
  refine ⟨ns,0,rfl,hl,hb,by first | decide | omega,fun r hr=>?_⟩
  simp only [VV]
  have r0:=Int.emod_nonneg r (show (many:Int) ≠ 0 by first | decide | omega)
  have r1:=Int.emod_lt_of_pos r (show (0:Int) < many by first | decide | omega)
  refine ⟨by first | decide | omega,⟨by first | decide | omega,by first | decide | omega⟩,?_⟩
  obtain ⟨n,hn⟩:∃ n:Nat,(1 + r % (many:Int)).toNat=n:=⟨_,rfl⟩
  have n1:1 ≤ n:=by first | decide | omega
  have n6:n ≤ 6:=by first | decide | omega
  rw [hn,rangeD_map]
  refine forL_map (fun p δ h'=>∃ (hs:Hd) (x6 x7:Option D),δ=[some (.scr (ns.map .int)),some (nD at'),some (nD many),some (nD wide),some (nD deep),some (.ref h.length),x6,x7,none,none]∧h'=h ++ [.lst (hs.map pD)]∧hs.length=p.length∧hOk hs) ⟨[],none,none,rfl,rfl,rfl,fun f x e=>by simp at e⟩ (fun _ _ _ _=>Src.ok_nil) ?_ ?_
  ·rintro p d r' δ h' N1 e ⟨hs,x6,x7,rfl,rfl,hlen,ok⟩ hN1
   obtain ⟨hdp,hd⟩:=range_split e
   simp only [VV]
   (try dsimp only);refine seq_intro fun N hN=>?_
   simp only [VV]
   refine ⟨ns,1 + d,by rw [show (1:Int) + (0 + (d:Int))=((1 + d:Nat):Int) by first | decide | omega],hl,hb,by first | decide | omega,fun r2 hr2=>?_⟩
   simp only [VV]
   refine ⟨by first | decide | omega,?_⟩
   subst hN
   have ng:=get_new h (.lst (hs.map pD))
   simp only [ng,set_new,List.length_map,VV]
   refine ⟨by first | decide | omega,by first | decide | omega,by first | decide | omega,by first | decide | omega,?_⟩
   have a0:=Int.emod_nonneg (r2 / 2) (show (wide:Int) ≠ 0 by first | decide | omega)
   have a1:=Int.emod_lt_of_pos (r2 / 2) (show (0:Int) < wide by first | decide | omega)
   have b0:=Int.emod_nonneg (r2 / 2 / 16) (show (deep:Int) ≠ 0 by first | decide | omega)
   have b1:=Int.emod_lt_of_pos (r2 / 2 / 16) (show (0:Int) < deep by first | decide | omega)
   refine hN1 _ _ ⟨hs ++ [((1 + r2 / 2 % (wide:Int)).toNat,(1 + r2 / 2 / 16 % (deep:Int)).toNat)],_,_,rfl,?_,by simp [hlen],fun f x hx=>?_⟩
   ·rw [List.map_append]
    show _=h ++ [O.lst (hs.map pD ++ [.tup [.int (((1 + r2 / 2 % (wide:Int)).toNat:Nat):Int),.int (((1 + r2 / 2 / 16 % (deep:Int)).toNat:Nat):Int)]])]
    rw [Int.toNat_of_nonneg (by first | decide | omega),Int.toNat_of_nonneg (by first | decide | omega)]
   ·by_cases hf:f < hs.length
    ·rw [List.getElem?_append_left hf] at hx;exact ok f x hx
    ·rw [List.getElem?_append_right (by first | decide | omega)] at hx
     have:f - hs.length=0:=by
      have:=(List.getElem?_eq_some_iff.mp hx).1
      simp at this;omega
     rw [this] at hx
     cases hx
     exact ⟨by show 1 ≤ (1 + r2 / 2 % (wide:Int)).toNat;omega,by show (1 + r2 / 2 % (wide:Int)).toNat ≤ 10;omega,by show 1 ≤ (1 + r2 / 2 / 16 % (deep:Int)).toNat;omega,by show (1 + r2 / 2 / 16 % (deep:Int)).toNat ≤ 6;omega⟩
  ·rintro δ h' ⟨hs,x6,x7,rfl,rfl,hlen,ok⟩
   rw [List.length_range] at hlen
   subst hN
   (try dsimp only);refine seq_intro fun N hN=>?_
   have src:=seqSrc_ref (get_new h (.lst (hs.map pD)))
   simp only [src,VV]
   refine ⟨by rw [List.length_map];omega,?_⟩
   refine compL_map (g:=pD) (fun p acc δ h'=>(∃ o,δ=[o])∧acc=(List.range p.length).map (fun j=>.ref (h.length + 1 + j))∧h'=h ++ (.lst (hs.map pD) :: (List.replicate p.length ([]:List Edge)).map eO)) ⟨⟨none,rfl⟩,rfl,by simp⟩ ?_ ?_ ?_
   ·rintro p acc δ h' ⟨_,_,rfl⟩ z hz
    rw [List.mem_singleton.mp hz];exact tl_hd
   ·rintro p y r' acc δ h' N1 e ⟨⟨o,rfl⟩,rfl,rfl⟩ hN1
    simp only [VV]
    refine hN1 _ _ _ ⟨⟨_,rfl⟩,?_,?_⟩
    ·rw [show (p ++ [y]).length=p.length + 1 by simp,List.range_succ,List.map_append]
     simp;omega
    ·rw [show (p ++ [y]).length=p.length + 1 by simp,List.replicate_succ',List.map_append]
     simp [eO]
   ·rintro acc δ h' ⟨⟨o,rfl⟩,rfl,rfl⟩
    subst hN
    (try dsimp only);refine seq_intro fun N hN=>?_
    obtain ⟨ms,hms,hml⟩:=cut_ints ns (some (at':Int)) (some ((at':Int) + 14))
    simp only [hms,VV]
    rw [enumD_map]
    refine forL_map (fun p δ h'=>∃ (es:List (List Edge)) (x6 x7 x9:Option D),δ=[some (.scr (ns.map .int)),some (nD at'),some (nD many),some (nD wide),some (nD deep),some (.ref h.length),x6,x7,some (.lst ((List.range hs.length).map (fun j=>.ref (h.length + 1 + j)))),x9]∧h'=h ++ (.lst (hs.map pD) :: es.map eO)∧es.length=hs.length∧∀ (f:Nat) (x:Nat×Nat) (l:List Edge),hs[f]?=some x→es[f]?=some l→l.length ≤ p.length∧∀ e ∈ l,eOkH hs x e) ⟨List.replicate hs.length [],_,_,_,rfl,rfl,by simp,fun f x l hf hl2=>?_⟩ (fun _ _ _ _=>Src.ok_nil) ?_ ?_
    ·have:=List.eq_of_mem_replicate (List.mem_of_getElem? hl2)
     subst this
     exact ⟨Nat.zero_le _,fun e he=>nomatch he⟩
    ·rintro p y r' δ h' N1 e ⟨es,x6,x7,x9,rfl,rfl,hel,hes⟩ hN1
     obtain ⟨cl,kk⟩:=y
     simp only [VV]
     refine ⟨trivial,?_⟩
     (try dsimp only);refine seq_intro fun N hN=>?_
     have hg0:lsOf (h ++ (.lst (hs.map pD) :: es.map eO)) (.ref h.length)=some (hs.map pD):=lsOf_ref tl_hd
     simp only [len_ls hg0,List.length_map,VV]
     refine ⟨by first | decide | omega,by first | decide | omega,?_⟩
     have f0:=Int.emod_nonneg (cl / 5 + (0 + (kk:Int))) (show (hs.length:Int) ≠ 0 by first | decide | omega)
     have f1:=Int.emod_lt_of_pos (cl / 5 + (0 + (kk:Int))) (show (0:Int) < hs.length by first | decide | omega)
     obtain ⟨f,hf⟩:∃ f:Nat,(cl / 5 + (0 + (kk:Int))) % (hs.length:Int)=(f:Int):=⟨_,(Int.toNat_of_nonneg f0).symm⟩
     rw [hf] at f1 ⊢
     have fl:f < hs.length:=by first | decide | omega
     obtain ⟨x,hx⟩:∃ x,hs[f]?=some x:=⟨_,List.getElem?_eq_getElem fl⟩
     obtain ⟨l,hl2⟩:∃ l,es[f]?=some l:=⟨_,List.getElem?_eq_getElem (by first | decide | omega)⟩
     have ixe:atI ((List.range hs.length).map (fun j=>D.ref (h.length + 1 + j))) (f:Int)=some (.ref (h.length + 1 + f)):=by rw [atN,List.getElem?_map,List.getElem?_range fl];rfl
     have tg:(h ++ (O.lst (hs.map pD) :: es.map eO))[h.length + 1 + f]?=some (.lst (l.map eD)):=tl_get hl2
     subst hN
     simp only [ixe,tg,VV]
     refine ⟨cl,.ref h.length,hs,f,2,x,rfl,hg0,hx,ok,by first | decide | omega,by first | decide | omega,by first | decide | omega,fun E hE=>?_⟩
     simp only [tg,List.length_map,VV]
     obtain ⟨q1,q2⟩:=hes f x l hx hl2
     have pl:p.length < ms.zipIdx.length:=by rw [e];simp
     rw [List.length_zipIdx] at pl
     have se:(h ++ (O.lst (hs.map pD) :: es.map eO)).set (h.length + 1 + f) (.lst (l.map eD ++ [eD E]))=h ++ (O.lst (hs.map pD) :: (es.set f (l ++ [E])).map eO):=by
      rw [← tl_set];unfold eO;rw [List.map_append];rfl
     rw [se]
     refine ⟨by first | decide | omega,hN1 _ _ ⟨es.set f (l ++ [E]),_,_,_,rfl,rfl,by simp [hel],fun f' x' l' hx' hl'=>?_⟩⟩
     by_cases z:f=f'
     ·subst z
      rw [hx] at hx';cases hx'
      rw [List.getElem?_set_self (by first | decide | omega)] at hl'
      cases hl'
      refine ⟨by simp;omega,fun e9 he9=>?_⟩
      rcases List.mem_append.mp he9 with w | w
      ·exact q2 e9 w
      ·rw [List.mem_singleton.mp w];exact hE
     ·rw [List.getElem?_set_ne z] at hl'
      obtain ⟨u1,u2⟩:=hes f' x' l' hx' hl'
      exact ⟨by simp;omega,u2⟩
    ·rintro δ h' ⟨es,x6,x7,x9,rfl,rfl,hel,hes⟩
     subst hN
     have hg0:lsOf (h ++ (.lst (hs.map pD) :: es.map eO)) (.ref h.length)=some (hs.map pD):=lsOf_ref tl_hd
     simp only [len_ls hg0,List.length_map,VV]
     refine ⟨⟨by first | decide | omega,by first | decide | omega⟩,by rw [rangeD_length];omega,?_⟩
     rw [rangeD_map,Int.toNat_natCast]
     refine comp1n (fun f=>.tup [nD (hs.getD f (0,0)).1,nD (hs.getD f (0,0)).2,.ref (h.length + 1 + f)]) Src.ok_nil none (fun f hf K k=>?_) ?_
     ·have fl:f < hs.length:=List.mem_range.mp hf
      have ixe:atI ((List.range hs.length).map (fun j=>D.ref (h.length + 1 + j))) (0 + (f:Int))=some (.ref (h.length + 1 + f)):=by rw [Int.zero_add,atN,List.getElem?_map,List.getElem?_range fl];rfl
      have ixh:ixD (h ++ (.lst (hs.map pD) :: es.map eO)) (.ref h.length) (.int (0 + (f:Int)))=some (pD (hs.getD f (0,0))):=by
       rw [ix_ls hg0,Int.zero_add,atN,List.getElem?_map,List.getD_eq_getElem?_getD,List.getElem?_eq_getElem fl];rfl
      simp only [ixe,ixh,pD,VV]
      exact k
     ·have wf:WF (mkC hs es):=mkC_wf ok (by first | decide | omega) (by first | decide | omega) hel (fun f x l h1 h2=>⟨Nat.le_trans (hes f x l h1 h2).1 (by rw [List.length_zipIdx];omega),(hes f x l h1 h2).2⟩)
      refine ⟨h,_,cD (mkC hs es),rfl,rfl,fun _ _ e=>.inl e,?_,q _ wf⟩
      have len:(mkC hs es).length=hs.length:=by unfold mkC;rw [List.length_map,List.length_zip,hel];omega
      refine .lst (.of_get (by rw [List.length_map,List.length_map,List.length_range,len]) fun f x y hx hy=>?_)
      rw [List.getElem?_map] at hx hy
      have fl:f < hs.length:=by
       rcases Nat.lt_or_ge f hs.length with z | z
       ·exact z
       ·rw [List.getElem?_eq_none (by rw [List.length_range];exact z)] at hx;cases hx
      rw [List.getElem?_range fl] at hx
      cases hx
      obtain ⟨xx,hxx⟩:∃ x,hs[f]?=some x:=⟨_,List.getElem?_eq_getElem fl⟩
      obtain ⟨l,hl2⟩:∃ l,es[f]?=some l:=⟨_,List.getElem?_eq_getElem (by first | decide | omega)⟩
      rw [mkC_at hxx hl2] at hy
      cases hy
      dsimp only
      rw [List.getD_eq_getElem?_getD,hxx]
      exact .tup (.cons (.nr rfl) (.cons (.nr rfl) (.cons (.opn (by first | decide | omega) (tl_get hl2) (.of (nrDs_map nrD_eD l))) .nil)))
 simp only [VV]
 refine ⟨ns,0,rfl,hl,hb,by first | decide | omega,fun r hr=>?_⟩
 simp only [VV]
 refine ⟨by first | decide | omega,by first | decide | omega,?_⟩
 refine iteB (fun z=>?_) (fun z=>?_)
 ·exact rest 6 (by first | decide | omega) (by first | decide | omega)
 ·exact rest many m1 m6
theorem ok_q2{f:Addr}{fd:FuncData}(F:Fun K "_law_chart" "_law_chart" s_q2 f fd)(T:Txt P w K mg)(C_q1:Cal P w K mg base 1 "_law_cell" ["_law_script","_law_k"] (spD K 2 S_q1))(C_q7:Cal P w K mg base 3 "_law_edge" ["_law_cell_here","_law_heads","_law_f","_law_most"] (spD K 4 S_q7)):FnOk P w K mg base CX0 4 f fd ["_law_script","_law_at","_law_many","_law_wide","_law_deep"] (spD K 5 S_q2) :=
 fn_okD (k:=3) (b:=b_q2) F sc_q2 (fun cdv A outer s H E hr=>by
  refine ss_cons ?_ ?_
  ·refine s_set (i:=5) ?_ ?_ ?_ ?_
   ·exact sc_q2.nd
   ·exact rfl
   ·exact Or.inr rfl
   exact se_t (sn_lst sa_nil)
  refine ss_cons ?_ ?_
  ·refine s_if ?_ ?_ ?_
   ·exact st_cmp (ok_eq hr.units) (se_op ok_mod (se_op ok_div (se_cal C_q1 (hr.mono (by decide)) rfl (sa_cons (sv 0) (sa_cons se_int sa_nil))) se_int) se_int) se_int (nomark _)
   ·refine ss_one ?_
    refine s_set (i:=2) ?_ ?_ ?_ ?_
    ·exact sc_q2.nd
    ·exact rfl
    ·exact Or.inl rfl
    exact se_int
   exact ss_nil
  refine ss_cons ?_ ?_
  ·refine s_for ?_ ?_ ?_ ?_ ?_
   ·exact PassesOwn.never
   ·exact rfl
   ·exact si_range1 rfl T.b_range (sa_cons (se_op ok_plus se_int (se_op ok_mod (se_cal C_q1 (hr.mono (by decide)) rfl (sa_cons (sv 0) (sa_cons se_int sa_nil))) (sv 2))) sa_nil)
   ·exact sg_name (i:=6) sc_q2.nd rfl (Or.inl rfl)
   refine ss_cons ?_ ?_
   ·refine s_set (i:=7) ?_ ?_ ?_ ?_
    ·exact sc_q2.nd
    ·exact rfl
    ·exact Or.inl rfl
    exact se_op ok_div (se_cal C_q1 (hr.mono (by decide)) rfl (sa_cons (sv 0) (sa_cons (se_op ok_plus se_int (sv 6)) sa_nil))) se_int
   refine ss_one ?_
   refine s_expr ?_
   exact se_append (sv 5) (sa_cons (se_tup (sa_cons (se_op ok_plus se_int (se_op ok_mod (sv 7) (sv 3))) (sa_cons (se_op ok_plus se_int (se_op ok_mod (se_op ok_div (sv 7) se_int) (sv 4))) sa_nil))) sa_nil)
  refine ss_cons ?_ ?_
  ·refine s_set (i:=8) ?_ ?_ ?_ ?_
   ·exact sc_q2.nd
   ·exact rfl
   ·exact Or.inr rfl
   refine se_v ?_
   exact sn_comp rfl (N':= ["_law_head"]) (js:=[none]) ⟨rfl,by decide +kernel,rfl,rfl,rfl⟩ (si_seq (sv 5)) (fun s0 H0 fp=>⟨(sg_name (i:=0) (show (["_law_head"]:List Str).Nodup by decide +kernel) rfl (Or.inl rfl)),sf_nil,(se_t (sn_lst sa_nil))⟩)
  refine ss_cons ?_ ?_
  ·refine s_for ?_ ?_ ?_ ?_ ?_
   ·exact PassesOwn.never
   ·exact rfl
   ·exact si_enum rfl T.b_enumerate (sa_cons (se_sl (sv 0) (so_some (sv 1)) (so_some (se_op ok_plus (sv 1) se_int))) sa_nil)
   ·exact sg_tup rfl (sgs_cons (sg_name (i:=9) sc_q2.nd rfl (Or.inl rfl)) (sgs_cons (sg_name (i:=7) sc_q2.nd rfl (Or.inl rfl)) sgs_nil))
   refine ss_cons ?_ ?_
   ·refine s_set (i:=6) ?_ ?_ ?_ ?_
    ·exact sc_q2.nd
    ·exact rfl
    ·exact Or.inl rfl
    exact se_op ok_mod (se_op ok_plus (se_op ok_div (sv 7) se_int) (sv 9)) (se_callB ok_len rfl T.b_len PySem.boot_len (sa_cons (sv 5) sa_nil))
   refine ss_one ?_
   refine s_expr ?_
   exact se_append (se_ix ok_ix (sv 8) (sv 6) (fun _ _=>rfl)) (sa_cons (se_cal C_q7 (hr.mono (by decide)) rfl (sa_cons (sv 7) (sa_cons (sv 5) (sa_cons (sv 6) (sa_cons se_int sa_nil))))) sa_nil)
  refine ss_one ?_
  refine s_ret ?_
  refine se_v ?_
  exact sn_comp rfl (N':= ["_law_f","_law_heads","_law_edges"]) (js:=[none,some 5,some 8]) ⟨rfl,by decide +kernel,rfl,rfl,rfl⟩ (si_range1 rfl T.b_range (sa_cons (se_callB ok_len rfl T.b_len PySem.boot_len (sa_cons (sv 5) sa_nil)) sa_nil)) (fun s0 H0 fp=>⟨(sg_name (i:=0) (show (["_law_f","_law_heads","_law_edges"]:List Str).Nodup by decide +kernel) rfl (Or.inl rfl)),sf_nil,(se_tup (sa_cons (se_ix ok_ix (se_ix ok_ix (sv 1) (sv 0) (fun _ _=>rfl)) se_int (fun _ _=>rfl)) (sa_cons (se_ix ok_ix (se_ix ok_ix (sv 1) (sv 0) (fun _ _=>rfl)) se_int (fun _ _=>rfl)) (sa_cons (se_ix ok_ix (sv 2) (sv 0) (fun _ _=>rfl)) sa_nil))))⟩)) imp_q2
noncomputable def b_q13:DS:=(dSeq (dAsg (dTk (dCons (dTup (dCons (dC (.str "start")) (dCons (dOp pIx (dCal S_q9 (dCons (dVar 1) dNil)) (dC (.int 0))) dNil))) (dCons (dTup (dCons (dC (.str "begin")) (dCons (dC (.int 0)) (dCons (dOp pIx (dCal S_q9 (dCons (dVar 1) dNil)) (dC (.int 0))) dNil)))) dNil))) (dName 3))
  (dSeq (dAsg (dTk (dComp [none,some 0,some 1] (dISeq (dVar 3)) (dName 0) dNoIf (dCal S_q3 (dCons (dVar 1) (dCons (dVar 2) (dCons (dV dNil) (dCons (dVar 0) dNil))))))) (dName 4))
  (dSeq (dFor (dISeq (dVar 2)) (dName 5) (dSeq (dAsg (dTk (dCons (dOp pPlus (dOp pMod (dVar 5) (dC (.int 2147483629))) (dC (.int 3))) dNil)) (dName 6))
  (dSeq (dAsg (dTup (dCons (dC (.str "start")) (dCons (dOp pIx (dCal S_q9 (dCons (dVar 1) dNil)) (dCal S_q11 (dCons (dVar 6) (dCons (dCB pLen (dCons (dCal S_q9 (dCons (dVar 1) dNil)) dNil)) dNil)))) dNil))) (dName 7))
  (dSeq (dIfS (dTst (dOp pGt (dCal S_q11 (dCons (dVar 6) (dCons (dC (.int 6)) dNil))) (dC (.int 0)))) (dSeq (dAsg (dCal S_q11 (dCons (dVar 6) (dCons (dCB pLen (dCons (dVar 0) dNil)) dNil))) (dName 8))
  (dAsg (dTup (dCons (dC (.str "begin")) (dCons (dVar 8) (dCons (dCal S_q11 (dCons (dVar 6) (dCons (dOp pIx (dOp pIx (dVar 0) (dVar 8)) (dC (.int 1))) dNil))) dNil)))) (dName 7))) dNext)
  (dSeq (dAsg (dOp pSub (dOp pSub (dCB pLen (dCons (dVar 4) dNil)) (dC (.int 1))) (dCal S_q11 (dCons (dVar 6) (dCons (dCB pMin (dCons (dC (.int 5)) (dCons (dCB pLen (dCons (dVar 4) dNil)) dNil))) dNil)))) (dName 9))
  (dSeq (dAsg (dCal S_q14 (dCons (dVar 0) (dCons (dVar 4) (dCons (dVar 9) dNil)))) (dName 10))
  (dSeq (dIfS (dAnd (dTst (dOp pGt (dCB pLen (dCons (dVar 10) dNil)) (dC (.int 0)))) (dTst (dOp pGt (dCal S_q11 (dCons (dVar 6) (dCons (dC (.int 5)) dNil))) (dC (.int 0))))) (dAsg (dOp pIx (dVar 10) (dCal S_q11 (dCons (dVar 6) (dCons (dCB pLen (dCons (dVar 10) dNil)) dNil)))) (dName 7)) dNext)
  (dSeq (dDrop (dAppend (dVar 3) (dCons (dVar 7) dNil)))
  (dDrop (dAppend (dVar 4) (dCons (dCal S_q3 (dCons (dVar 0) (dCons (dVar 1) (dCons (dVar 4) (dCons (dVar 7) dNil))))) dNil)))))))))))
  (dRet (dTup (dCons (dVar 3) (dCons (dVar 4) dNil)))))))
theorem facts_ne{st n:Nat}(h1:1 ≤ st)(h2:st < 2 ^ n)(h6:n ≤ 6):0 < (facts6 st).length:=by
 obtain ⟨i,hi⟩:=Nat.exists_testBit_of_ne_zero (show st ≠ 0 by first | decide | omega)
 apply List.length_pos_of_mem (a:=i)
 unfold facts6
 rw [List.mem_filter,List.mem_range]
 refine ⟨?_,hi⟩
 rcases Nat.lt_or_ge i 6 with z | z
 ·exact z
 ·have:st < 2 ^ i:=Nat.lt_of_lt_of_le h2 (Nat.pow_le_pow_right (by decide) (by first | decide | omega))
  rw [Nat.testBit_lt_two_pow this] at hi;cases hi
theorem cl_start{C:Chart}{cs:List Clm}{F:Fn}{st d:Nat}(hF:C[0]?=some F)(h2:st < 2 ^ F.facts)(hd:d ∈ facts6 st):claimOf C st cs (.start d)=some (.at 0 0 d 0):=by
 have hb:=(mem6 hd).1
 have hl:d < F.facts:=by
  rcases Nat.lt_or_ge d F.facts with z | z
  ·exact z
  ·rw [Nat.testBit_lt_two_pow (Nat.lt_of_lt_of_le h2 (Nat.pow_le_pow_right (by decide) z))] at hb;cases hb
 simp only [claimOf,hF]
 rw [if_pos (by first | decide | omega)]
 show (if ((d:Nat):Int) < F.facts∧st.testBit ((d:Nat):Int).toNat=true then some (Clm.at 0 0 ((d:Nat):Int).toNat 0) else none)=_
 rw [Int.toNat_natCast,if_pos ⟨by first | decide | omega,hb⟩]
theorem cl_begin{C:Chart}{cs:List Clm}{F:Fn}{f d:Nat}(st:Nat)(hF:C[f]?=some F)(hl:d < F.facts):claimOf C st cs (.begin f d)=some (.within f d 0 d 0):=by
 simp only [claimOf,Int.toNat_natCast,hF]
 rw [if_pos ⟨by first | decide | omega,by first | decide | omega⟩]
 show (if ((d:Nat):Int) < F.facts then some (Clm.within f d 0 d 0) else none)=_
 rw [if_pos (by first | decide | omega)]
theorem fact_lt{st n d:Nat}(h2:st < 2 ^ n)(hd:d ∈ facts6 st):d < n:=by
 have hb:=(mem6 hd).1
 rcases Nat.lt_or_ge d n with z | z
 ·exact z
 ·rw [Nat.testBit_lt_two_pow (Nat.lt_of_lt_of_le h2 (Nat.pow_le_pow_right (by decide) z))] at hb;cases hb
theorem allClaims_snoc{C:Chart}{st:Nat}{r:Row}{c:Clm}:∀ {rs:List Row} {cs ds:List Clm},allClaims C st rs cs=some ds→claimOf C st ds r=some c→allClaims C st (rs ++ [r]) cs=some (ds ++ [c])
 |[],cs,ds,h,k=>by cases h;show (claimOf C st cs r).bind _=_;rw [k];rfl
 |r' :: rs,cs,ds,h,k=>by
  have h:((claimOf C st cs r').bind fun c=>allClaims C st rs (cs ++ [c]))=some ds:=h
  show ((claimOf C st cs r').bind fun c=>allClaims C st (rs ++ [r]) (cs ++ [c]))=_
  cases q:claimOf C st cs r' with
  |none=>rw [q] at h;cases h
  |some c'=>rw [q] at h;exact allClaims_snoc (rs:=rs) h k
noncomputable def pH(h:Hh)(rs:List Row)(cs:List Clm)(g:Hh):Hh:=h ++ (.lst (rs.map rD) :: .lst (cs.map clD) :: g)
theorem pH_0(h:Hh)(rs:List Row)(cs:List Clm)(g:Hh):(pH h rs cs g)[h.length]?=some (.lst (rs.map rD)):=by
 unfold pH;rw [List.getElem?_append_right (Nat.le_refl _)];simp
theorem pH_1(h:Hh)(rs:List Row)(cs:List Clm)(g:Hh):(pH h rs cs g)[h.length + 1]?=some (.lst (cs.map clD)):=by
 unfold pH;rw [List.getElem?_append_right (by first | decide | omega),show h.length + 1 - h.length=1 by first | decide | omega];rfl
theorem pH_s0(h:Hh)(rs:List Row)(cs:List Clm)(g:Hh)(r:Row):(pH h rs cs g).set h.length (.lst (rs.map rD ++ [rD r]))=pH h (rs ++ [r]) cs g:=by
 unfold pH;rw [List.set_append_right _ _ (Nat.le_refl _)];simp
theorem pH_s1(h:Hh)(rs:List Row)(cs:List Clm)(g:Hh)(c:Clm):(pH h rs cs g).set (h.length + 1) (.lst (cs.map clD ++ [clD c]))=pH h rs (cs ++ [c]) g:=by
 unfold pH;rw [List.set_append_right _ _ (by first | decide | omega),show h.length + 1 - h.length=1 by first | decide | omega];simp
theorem pH_a(h:Hh)(rs:List Row)(cs:List Clm)(g:Hh)(o:O):pH h rs cs g ++ [o]=pH h rs cs (g ++ [o]):=by unfold pH;simp
theorem pH_pre(h:Hh)(rs:List Row)(cs:List Clm)(g:Hh):Pre h (pH h rs cs g):=Pre.app _ _
noncomputable def S_q13:DSp:=fun ds h Q=>∃ (C:Chart) (st:Nat) (F0:Fn) (ms:List Int),ds=[cD C,nD st,.lst (ms.map .int)]∧WF C∧C[0]?=some F0∧1 ≤ st∧st < 2 ^ F0.facts∧ms.length ≤ 63∧(∀ x ∈ ms,Builtin.Int.intBits x ≤ 1048576)∧∀ rs cs,1 ≤ rs.length→rs.length ≤ 100→allClaims C st rs []=some cs→Q (.tup [.lst (rs.map rD),.lst (cs.map clD)]) h
theorem imp_q13:∀ ds h Q,S_q13 ds h Q→runD 11 b_q13 ds h (Dr h Q):=by
 rintro ds h Q ⟨C,st,F0,ms,rfl,wf,hF0,st1,st2,hml,hmb,q⟩
 obtain ⟨_,_,f1,f6,_,_⟩:=wf.fn 0 F0 hF0
 have fpos:=facts_ne st1 st2 f6
 obtain ⟨d0,hd0⟩:∃ d,(facts6 st)[0]?=some d:=⟨_,List.getElem?_eq_getElem fpos⟩
 have md0:=List.mem_of_getElem? hd0
 have a0:atI ((facts6 st).map nD) 0=some (nD d0):=by
  rw [show (0:Int)=((0:Nat):Int) from rfl,atN,List.getElem?_map,hd0];rfl
 delta runD runX b_q13;simp only [List.map_cons,List.map_nil,List.cons_append,List.nil_append,List.length_cons,List.length_nil,List.replicate,Nat.reduceSub,Nat.reduceAdd,Nat.zero_add,Nat.sub_self]
 (try dsimp only);refine seq_intro fun N hN=>?_
 simp only [VV]
 refine ⟨st,rfl,?_⟩
 simp only [a0,VV]
 refine ⟨st,rfl,?_⟩
 simp only [a0,VV]
 subst hN
 (try dsimp only);refine seq_intro fun N hN=>?_
 have g0:=get_new h (.lst [.tup [.str "start",nD d0],.tup [.str "begin",.int 0,nD d0]])
 simp only [seqSrc_ref g0,VV]
 refine ⟨by decide,?_⟩
 have c1:claimOf C st [] (.start d0)=some (.at 0 0 d0 0):=cl_start hF0 st2 md0
 have c2:claimOf C st [] (.begin 0 d0)=some (.within 0 d0 0 d0 0):=cl_begin (f:=0) st hF0 (fact_lt st2 md0)
 have c2':claimOf C st [.at 0 0 d0 0] (.begin 0 d0)=some (.within 0 d0 0 d0 0):=cl_begin (f:=0) st hF0 (fact_lt st2 md0)
 have cl0:allClaims C st [.start d0,.begin 0 d0] []=some [.at 0 0 d0 0,.within 0 d0 0 d0 0]:=by
  show (claimOf C st [] (.start d0)).bind _=_
  rw [c1]
  show (claimOf C st [.at 0 0 d0 0] (.begin 0 d0)).bind _=_
  rw [c2'];rfl
 show compL _ (dName 0) dNoIf _ ([Row.start d0,Row.begin 0 d0].map rD) [] [none,some (cD C),some (nD st)] _ _
 refine comp1n (fun r=>oD clD (claimOf C st [] r)) (fun z hz=>?_) none (fun r hr K k=>?_) ?_
 ·rw [List.mem_singleton.mp hz];exact g0
 ·simp only [VV]
  exact ⟨cD C,.lst [],C,[],st,F0,r,rfl,ChD.of _ C,wf,rfl,(fun x hx=>nomatch hx),hF0,st2,k⟩
 ·simp only [c1,c2,oD,VV]
  subst hN
  (try dsimp only);refine seq_intro fun N hN=>?_
  simp only [VV]
  refine forL_map (fun p δ h'=>∃ (rs:List Row) (cs:List Clm) (g:Hh) (x5 x6 x7 x8 x9 x10:Option D),δ=[some (cD C),some (nD st),some (.lst (ms.map .int)),some (.ref h.length),some (.ref (h.length + 1)),x5,x6,x7,x8,x9,x10]∧h'=pH h rs cs g∧rs.length=p.length + 2∧allClaims C st rs []=some cs∧∀ c ∈ cs,clOk C c) ⟨[.start d0,.begin 0 d0],[.at 0 0 d0 0,.within 0 d0 0 d0 0],[],none,none,none,none,none,none,?_,?_,rfl,cl0,?_⟩ (fun _ _ _ _=>Src.ok_nil) ?_ ?_
  ·simp
  ·unfold pH;simp [rD,clD]
  ·intro c hc
   rcases List.mem_cons.mp hc with z | z
   ·subst z;exact claim_ok (st:=st) (cs:=[]) wf (fun x hx=>nomatch hx) c1
   ·rw [List.mem_singleton.mp z];exact claim_ok (st:=st) (cs:=[]) wf (fun x hx=>nomatch hx) c2
  ·rintro p m r' δ h' N1 e ⟨rs,cs,g,x5,x6,x7,x8,x9,x10,rfl,rfl,hrl,hcl,ok⟩ hN1
   have csl:=allClaims_len hcl
   have pl:p.length < ms.length:=by rw [e];simp
   simp only [List.length_nil] at csl
   simp only [VV]
   (try dsimp only);refine seq_intro fun N hN=>?_
   simp only [VV]
   refine ⟨by first | decide | omega,?_⟩
   have r0:=Int.emod_nonneg m (show (2147483629:Int) ≠ 0 by first | decide | omega)
   generalize hs0:m % 2147483629 + 3=s0
   subst hN
   (try dsimp only);refine seq_intro fun N hN=>?_
   simp only [VV]
   refine ⟨st,rfl,⟨st,rfl,?_⟩⟩
   simp only [List.length_map,VV]
   refine ⟨_,s0,_,rfl,get_new _ _,by first | decide | omega,fun s1 j1 hj1=>?_⟩
   rw [set_new]
   obtain ⟨d1,hd1⟩:∃ d,(facts6 st)[j1]?=some d:=⟨_,List.getElem?_eq_getElem (by first | decide | omega)⟩
   have md1:=List.mem_of_getElem? hd1
   have a1:atI ((facts6 st).map nD) (j1:Int)=some (nD d1):=by rw [atN,List.getElem?_map,hd1];rfl
   simp only [a1,VV]
   have ok1:rowOk C st cs (.start d1):=⟨_,cl_start hF0 st2 md1⟩
   subst hN
   (try dsimp only);refine seq_intro fun N hN=>?_
   have mid:∀ (s:Int) (r:Row) (x8:Option D),rowOk C st cs r→N [some (cD C),some (nD st),some (.lst (ms.map .int)),some (.ref h.length),some (.ref (h.length + 1)),some (.int m),some (.ref (pH h rs cs g).length),some (rD r),x8,x9,x10] (pH h rs cs g ++ [.lst [.int s]]):=by
    intro s r x8 okr
    subst hN
    (try dsimp only);refine seq_intro fun N hN=>?_
    have l1:∀ s:Int,lsOf (pH h rs cs g ++ [.lst [.int s]]) (.ref (h.length + 1))=some (cs.map clD):=fun s=>by rw [pH_a];exact lsOf_ref (pH_1 ..)
    simp only [len_ls (l1 _),List.length_map,VV]
    have mn:(if ((cs.length:Int) < 5) then (cs.length:Int) else 5)=((min 5 cs.length:Nat):Int):=by split <;> omega
    rw [mn]
    have cs2:2 ≤ cs.length:=by first | decide | omega
    refine ⟨_,s,_,rfl,get_new _ _,by first | decide | omega,fun s5 j5 hj5=>?_⟩
    rw [set_new]
    have k5:(cs.length:Int) - 1 - (j5:Int)=((cs.length - 1 - j5:Nat):Int):=by first | decide | omega
    obtain ⟨one,ho⟩:∃ d,cs[cs.length - 1 - j5]?=some d:=⟨_,List.getElem?_eq_getElem (by first | decide | omega)⟩
    generalize cs.length - 1 - j5=kk at k5 ho
    simp only [pSub,k5,VV]
    subst hN
    (try dsimp only);refine seq_intro fun N hN=>?_
    simp only [VV]
    refine ⟨cD C,.ref (h.length + 1),C,cs,st,kk,one,rfl,ChD.of _ C,wf,l1 _,by first | decide | omega,ok,ho,fun rs6 hl6 ok6=>?_⟩
    subst hN
    (try dsimp only);refine seq_intro fun N hN=>?_
    have fin':∀ (s:Int) (r:Row),rowOk C st cs r→N [some (cD C),some (nD st),some (.lst (ms.map .int)),some (.ref h.length),some (.ref (h.length + 1)),some (.int m),some (.ref (pH h rs cs g).length),some (rD r),x8,some (nD kk),some (.lst (rs6.map rD))] (pH h rs cs g ++ [.lst [.int s]]):=by
     rintro s r ⟨c9,hc9⟩
     rw [pH_a]
     subst hN
     (try dsimp only);refine seq_intro fun N hN=>?_
     simp only [pH_0,pH_s0,List.length_map,VV]
     refine ⟨by first | decide | omega,?_⟩
     subst hN
     simp only [pH_1,VV]
     refine ⟨cD C,.ref (h.length + 1),C,cs,st,F0,r,rfl,ChD.of _ C,wf,lsOf_ref (pH_1 ..),ok,hF0,st2,?_⟩
     simp only [pH_1,hc9,oD,pH_s1,List.length_map,VV]
     refine ⟨by first | decide | omega,hN1 _ _ ⟨rs ++ [r],cs ++ [c9],_,_,_,_,_,_,_,rfl,rfl,by simp;omega,allClaims_snoc hcl hc9,fun c hc'=>?_⟩⟩
     rcases List.mem_append.mp hc' with z | z
     ·exact ok c z
     ·rw [List.mem_singleton.mp z];exact claim_ok wf ok hc9
    simp only [List.length_map,VV]
    by_cases l0:0 < (rs6.length:Int)
    ·simp only [l0,VV]
     refine ⟨_,s5,_,rfl,get_new _ _,by first | decide | omega,fun s6 j6 hj6=>?_⟩
     rw [set_new]
     simp only [VV]
     by_cases j0:0 < (j6:Int)
     ·simp only [j0,List.length_map,VV]
      refine ⟨_,s6,_,rfl,get_new _ _,by first | decide | omega,fun s7 j7 hj7=>?_⟩
      rw [set_new]
      obtain ⟨r7,hr7⟩:∃ d,rs6[j7]?=some d:=⟨_,List.getElem?_eq_getElem (by first | decide | omega)⟩
      have ix7:atI (rs6.map rD) (j7:Int)=some (rD r7):=by rw [atN,List.getElem?_map,hr7];rfl
      simp only [ix7,VV]
      exact fin' _ _ (ok6 _ (List.mem_of_getElem? hr7))
     ·simp only [j0,VV]
      exact fin' _ _ okr
    ·simp only [l0,VV]
     exact fin' _ _ okr
   simp only [VV]
   refine ⟨_,s1,_,rfl,get_new _ _,by first | decide | omega,fun s2 j2 hj2=>?_⟩
   rw [set_new]
   simp only [VV]
   by_cases j0:0 < (j2:Int)
   ·simp only [j0,VV]
    (try dsimp only);refine seq_intro fun N2 hN2=>?_
    have lc:∀ h',lenD h' (cD C)=some C.length:=fun h'=>(ChD.of h' C).len
    have cpos:=wf.one
    simp only [lc,VV]
    refine ⟨_,s2,_,rfl,get_new _ _,by first | decide | omega,fun s3 j3 hj3=>?_⟩
    rw [set_new]
    obtain ⟨F3,hF3⟩:∃ d,C[j3]?=some d:=⟨_,List.getElem?_eq_getElem (by first | decide | omega)⟩
    have ix3:∀ h',ixD h' (cD C) (nD j3)=some (fD F3):=fun h'=>by
     show atI (C.map fD) (j3:Int)=_
     rw [atN,List.getElem?_map,hF3];rfl
    have f3:=(wf.fn j3 F3 hF3).2.2.1
    subst hN2
    simp only [ix3,fD,VV]
    refine ⟨_,s3,_,rfl,get_new _ _,by first | decide | omega,fun s4 j4 hj4=>?_⟩
    rw [set_new]
    simp only [VV]
    exact mid _ (.begin j3 j4) _ ⟨_,cl_begin st hF3 (by first | decide | omega)⟩
   ·simp only [j0,VV]
    exact mid _ (.start d1) _ ok1
  ·rintro δ h' ⟨rs,cs,g,x5,x6,x7,x8,x9,x10,rfl,rfl,hrl,hcl,ok⟩
   subst hN
   simp only [VV]
   refine ⟨h,.lst (rs.map rD) :: .lst (cs.map clD) :: g,.tup [.lst (rs.map rD),.lst (cs.map clD)],rfl,rfl,fun _ _ e=>.inl e,.tup (.cons (.opn (Nat.le_refl _) (pH_0 h rs cs g) (.of (nrDs_map nrD_rD rs))) (.cons (.opn (by first | decide | omega) (pH_1 h rs cs g) (.of (nrDs_map nrD_clD cs))) .nil)),q rs cs (by first | decide | omega) (by first | decide | omega) hcl⟩
theorem ok_q13{f:Addr}{fd:FuncData}(F:Fun K "_law_paper" "_law_paper" s_q13 f fd)(T:Txt P w K mg)(C_q9:Cal P w K mg base 1 "_law_facts" ["_law_mask"] (spD K 1 S_q9))(C_q3:Cal P w K mg base 3 "_law_claim" ["_law_chart_here","_law_start_here","_law_done","_law_row"] (spD K 4 S_q3))(C_q11:Cal P w K mg base 1 "_law_next" ["_law_state","_law_many"] (spD K 2 S_q11))(C_q14:Cal P w K mg base 3 "_law_rows_from" ["_law_chart_here","_law_done","_law_k"] (spD K 3 S_q14)):FnOk P w K mg base CX0 4 f fd ["_law_chart_here","_law_start_here","_law_cells"] (spD K 3 S_q13) :=
 fn_okD (k:=3) (b:=b_q13) F sc_q13 (fun cdv A outer s H E hr=>by
  refine ss_cons ?_ ?_
  ·refine s_set (i:=3) ?_ ?_ ?_ ?_
   ·exact sc_q13.nd
   ·exact rfl
   ·exact Or.inl rfl
   exact se_t (sn_lst (sa_cons (se_tup (sa_cons se_str (sa_cons (se_ix ok_ix (se_cal C_q9 (hr.mono (by decide)) rfl (sa_cons (sv 1) sa_nil)) se_int (fun _ _=>rfl)) sa_nil))) (sa_cons (se_tup (sa_cons se_str (sa_cons se_int (sa_cons (se_ix ok_ix (se_cal C_q9 (hr.mono (by decide)) rfl (sa_cons (sv 1) sa_nil)) se_int (fun _ _=>rfl)) sa_nil)))) sa_nil)))
  refine ss_cons ?_ ?_
  ·exact s_setcT (i:=4) (hN:=sc_q13.nd) (hix:=rfl) (hx:=(Or.inl rfl)) rfl (N':= ["_law_row","_law_chart_here","_law_start_here"]) (js:=[none,some 0,some 1]) ⟨rfl,by decide +kernel,rfl,rfl,rfl⟩ (si_seq (sv 3)) (fun s0 H0 fp=>⟨(sg_name (i:=0) (show (["_law_row","_law_chart_here","_law_start_here"]:List Str).Nodup by decide +kernel) rfl (Or.inl rfl)),sf_nil,(se_cal C_q3 (hr.mono (by decide)) rfl (sa_cons (sv 1) (sa_cons (sv 2) (sa_cons (se_v (sn_lst sa_nil)) (sa_cons (sv 0) sa_nil)))))⟩)
  refine ss_cons ?_ ?_
  ·refine s_for ?_ ?_ ?_ ?_ ?_
   ·exact PassesOwn.never
   ·exact rfl
   ·exact si_seq (sv 2)
   ·exact sg_name (i:=5) sc_q13.nd rfl (Or.inl rfl)
   refine ss_cons ?_ ?_
   ·refine s_set (i:=6) ?_ ?_ ?_ ?_
    ·exact sc_q13.nd
    ·exact rfl
    ·exact Or.inl rfl
    exact se_t (sn_lst (sa_cons (se_op ok_plus (se_op ok_mod (sv 5) se_int) se_int) sa_nil))
   refine ss_cons ?_ ?_
   ·refine s_set (i:=7) ?_ ?_ ?_ ?_
    ·exact sc_q13.nd
    ·exact rfl
    ·exact Or.inl rfl
    refine se_tup (n:=2) ?_
    refine sa_cons ?_ ?_
    ·exact se_str
    refine sa_cons ?_ ?_
    ·exact se_ix ok_ix (se_cal C_q9 (hr.mono (by decide)) rfl (sa_cons (sv 1) sa_nil)) (se_cal C_q11 (hr.mono (by decide)) rfl (sa_cons (sv 6) (sa_cons (se_callB ok_len rfl T.b_len PySem.boot_len (sa_cons (se_cal C_q9 (hr.mono (by decide)) rfl (sa_cons (sv 1) sa_nil)) sa_nil)) sa_nil))) (fun _ _=>rfl)
    exact sa_nil
   refine ss_cons ?_ ?_
   ·refine s_if ?_ ?_ ?_
    ·exact st_cmp ok_gt (se_cal C_q11 (hr.mono (by decide)) rfl (sa_cons (sv 6) (sa_cons se_int sa_nil))) se_int (nomark _)
    ·refine ss_cons ?_ ?_
     ·refine s_set (i:=8) ?_ ?_ ?_ ?_
      ·exact sc_q13.nd
      ·exact rfl
      ·exact Or.inl rfl
      exact se_cal C_q11 (hr.mono (by decide)) rfl (sa_cons (sv 6) (sa_cons (se_callB ok_len rfl T.b_len PySem.boot_len (sa_cons (sv 0) sa_nil)) sa_nil))
     refine ss_one ?_
     refine s_set (i:=7) ?_ ?_ ?_ ?_
     ·exact sc_q13.nd
     ·exact rfl
     ·exact Or.inl rfl
     refine se_tup (n:=3) ?_
     refine sa_cons ?_ ?_
     ·exact se_str
     refine sa_cons ?_ ?_
     ·exact sv 8
     refine sa_cons ?_ ?_
     ·exact se_cal C_q11 (hr.mono (by decide)) rfl (sa_cons (sv 6) (sa_cons (se_ix ok_ix (se_ix ok_ix (sv 0) (sv 8) (fun _ _=>rfl)) se_int (fun _ _=>rfl)) sa_nil))
     exact sa_nil
    exact ss_nil
   refine ss_cons ?_ ?_
   ·refine s_set (i:=9) ?_ ?_ ?_ ?_
    ·exact sc_q13.nd
    ·exact rfl
    ·exact Or.inl rfl
    exact se_op ok_sub (se_op ok_sub (se_callB ok_len rfl T.b_len PySem.boot_len (sa_cons (sv 4) sa_nil)) se_int) (se_cal C_q11 (hr.mono (by decide)) rfl (sa_cons (sv 6) (sa_cons (se_callB (ok_min rfl) rfl T.b_min PyProof.Rows.boot_min (sa_cons se_int (sa_cons (se_callB ok_len rfl T.b_len PySem.boot_len (sa_cons (sv 4) sa_nil)) sa_nil))) sa_nil)))
   refine ss_cons ?_ ?_
   ·refine s_set (i:=10) ?_ ?_ ?_ ?_
    ·exact sc_q13.nd
    ·exact rfl
    ·exact Or.inl rfl
    exact se_cal C_q14 (hr.mono (by decide)) rfl (sa_cons (sv 0) (sa_cons (sv 4) (sa_cons (sv 9) sa_nil)))
   refine ss_cons ?_ ?_
   ·refine s_if ?_ ?_ ?_
    ·exact st_w (sw_and (st_cmp ok_gt (se_callB ok_len rfl T.b_len PySem.boot_len (sa_cons (sv 10) sa_nil)) se_int (nomark _)) (sw_and1 (st_cmp ok_gt (se_cal C_q11 (hr.mono (by decide)) rfl (sa_cons (sv 6) (sa_cons se_int sa_nil))) se_int (nomark _))))
    ·refine ss_one ?_
     refine s_set (i:=7) ?_ ?_ ?_ ?_
     ·exact sc_q13.nd
     ·exact rfl
     ·exact Or.inl rfl
     exact se_ix ok_ix (sv 10) (se_cal C_q11 (hr.mono (by decide)) rfl (sa_cons (sv 6) (sa_cons (se_callB ok_len rfl T.b_len PySem.boot_len (sa_cons (sv 10) sa_nil)) sa_nil))) (fun _ _=>rfl)
    exact ss_nil
   refine ss_cons ?_ ?_
   ·refine s_expr ?_
    exact se_append (sv 3) (sa_cons (sv 7) sa_nil)
   refine ss_one ?_
   refine s_expr ?_
   exact se_append (sv 4) (sa_cons (se_cal C_q3 (hr.mono (by decide)) rfl (sa_cons (sv 0) (sa_cons (sv 1) (sa_cons (sv 4) (sa_cons (sv 7) sa_nil))))) sa_nil)
  refine ss_one ?_
  refine s_ret ?_
  refine se_tup (n:=2) ?_
  refine sa_cons ?_ ?_
  ·exact sv 3
  refine sa_cons ?_ ?_
  ·exact sv 4
  exact sa_nil) imp_q13
noncomputable def b_q6:DS:=(dSeq (dAsg (dTk dNil) (dName 3))
  (dSeq (dFor (dIRange (dCons (dCB pLen (dCons (dVar 2) dNil)) dNil)) (dName 4) (dSeq (dAsg (dCal S_q3 (dCons (dVar 0) (dCons (dVar 1) (dCons (dVar 3) (dCons (dOp pIx (dVar 2) (dVar 4)) dNil))))) (dName 5))
  (dSeq (dIfS (dTst (dOp (pIs false) (dVar 5) (dC .non))) (dRet (dTup (dCons (dC (.str "no")) (dCons (dVar 4) dNil)))) dNext)
  (dDrop (dAppend (dVar 3) (dCons (dVar 5) dNil))))))
  (dRet (dTup (dCons (dC (.str "claims")) (dCons (dVar 3) dNil))))))
noncomputable def S_q6:DSp:=fun ds h Q=>∃ (c a:D) (C:Chart) (rs:List Row) (st:Nat) (F0:Fn),ds=[c,nD st,a]∧ChD h c C∧WF C∧lsOf h a=some (rs.map rD)∧rs.length ≤ 5000∧C[0]?=some F0∧st < 2 ^ F0.facts∧Q (dueD (runC C st rs [])) h
theorem imp_q6:∀ ds h Q,S_q6 ds h Q→runD 6 b_q6 ds h (Dr h Q):=by
 rintro ds h Q ⟨c,a,C,rs,st,F0,rfl,hc,wf,ha,hl,hF0,hst,q⟩
 delta runD runX b_q6;simp only [List.map_cons,List.map_nil,List.cons_append,List.nil_append,List.length_cons,List.length_nil,List.replicate,Nat.reduceSub,Nat.reduceAdd,Nat.zero_add,Nat.sub_self]
 (try dsimp only);refine seq_intro fun N hN=>?_
 simp only [VV]
 subst hN
 (try dsimp only);refine seq_intro fun N hN=>?_
 have p1:∀ o,Pre h (h ++ [o]):=fun o=>Pre.app _ _
 simp only [len_ls ((p1 _).ls ha),List.length_map,VV]
 refine ⟨by first | decide | omega,?_⟩
 rw [rangeD_map,Int.toNat_natCast]
 refine forL_map (fun p δ h'=>∃ (cl:List Clm) (x1 x2:Option D),δ=[some c,some (nD st),some a,some (.ref h.length),x1,x2]∧h'=h ++ [.lst (cl.map clD)]∧(∀ c ∈ cl,clOk C c)∧cl.length=p.length∧runC C st (rs.drop p.length) cl=runC C st rs []) ⟨[],none,none,rfl,rfl,(fun c hc=>nomatch hc),rfl,rfl⟩ (fun _ _ _ _=>Src.ok_nil) ?_ ?_
 ·rintro p i rest δ h' N1 e ⟨cl,x1,x2,rfl,rfl,ok,hlen,hall⟩ hN1
  obtain ⟨hip,hi⟩:=range_split e
  obtain ⟨r,hr0⟩:∃ r,rs[i]?=some r:=⟨_,List.getElem?_eq_getElem hi⟩
  have hd:rs.drop p.length=r :: rs.drop (p.length + 1):=by
   rw [hip] at hr0 hi
   obtain ⟨h1,h2⟩:=List.getElem?_eq_some_iff.mp hr0
   rw [← h2];exact List.drop_eq_getElem_cons hi
  rw [hd] at hall
  have ix:∀ o,ixD (h ++ [o]) a (.int (0 + (i:Int)))=some (rD r):=fun o=>by
   rw [ix_ls ((p1 o).ls ha),Int.zero_add,atN,List.getElem?_map,hr0];rfl
  simp only [VV]
  (try dsimp only);refine seq_intro fun N hN=>?_
  simp only [ix,VV]
  refine ⟨c,.ref h.length,C,cl,st,F0,r,rfl,hc.mono (p1 _),wf,ls_new _ _,ok,hF0,hst,?_⟩
  subst hN
  (try dsimp only);refine seq_intro fun N hN=>?_
  cases hr:claimOf C st cl r with
  |none =>
   rw [runC_none hr] at hall
   simp only [oD,VV]
   rw [← hall] at q
   rw [Int.zero_add,hip,← hlen]
   exact Dr.drop rfl q
  |some k =>
   rw [runC_some hr] at hall
   simp only [oD,clD_non,VV]
   subst hN
   simp only [get_new,set_new,VV]
   refine ⟨by rw [List.length_map];omega,hN1 _ _ ⟨cl ++ [k],_,_,rfl,by rw [List.map_append];rfl,fun c hc'=>?_,by simp [hlen],?_⟩⟩
   ·rcases List.mem_append.mp hc' with z | z
    ·exact ok c z
    ·rw [List.mem_singleton.mp z];exact claim_ok wf ok hr
   ·rw [List.length_append,List.length_singleton];exact hall
 ·rintro δ h' ⟨cl,x1,x2,rfl,rfl,ok,hlen,hall⟩
  rw [List.length_range,List.drop_length] at hall
  rw [← hall] at q
  subst hN
  simp only [VV]
  exact ⟨h,[.lst (cl.map clD)],.tup [.str "claims",.lst (cl.map clD)],rfl,rfl,fun _ _ e=>.inl e,.tup (.cons (.nr rfl) (.cons (.opn (Nat.le_refl _) (get_new _ _) (.of (nrDs_map nrD_clD cl))) .nil)),q⟩
theorem ok_q6{f:Addr}{fd:FuncData}(F:Fun K "_law_due" "_law_due" s_q6 f fd)(T:Txt P w K mg)(C_q3:Cal P w K mg base 3 "_law_claim" ["_law_chart_here","_law_start_here","_law_done","_law_row"] (spD K 4 S_q3)):FnOk P w K mg base CX0 4 f fd ["_law_chart_here","_law_start_here","_law_rows"] (spD K 3 S_q6) :=
 fn_okD (k:=3) (b:=b_q6) F sc_q6 (fun cdv A outer s H E hr=>by
  refine ss_cons ?_ ?_
  ·refine s_set (i:=3) ?_ ?_ ?_ ?_
   ·exact sc_q6.nd
   ·exact rfl
   ·exact Or.inl rfl
   exact se_t (sn_lst sa_nil)
  refine ss_cons ?_ ?_
  ·refine s_for ?_ ?_ ?_ ?_ ?_
   ·exact PassesOwn.never
   ·exact rfl
   ·exact si_range1 rfl T.b_range (sa_cons (se_callB ok_len rfl T.b_len PySem.boot_len (sa_cons (sv 2) sa_nil)) sa_nil)
   ·exact sg_name (i:=4) sc_q6.nd rfl (Or.inl rfl)
   refine ss_cons ?_ ?_
   ·refine s_set (i:=5) ?_ ?_ ?_ ?_
    ·exact sc_q6.nd
    ·exact rfl
    ·exact Or.inl rfl
    exact se_cal C_q3 (hr.mono (by decide)) rfl (sa_cons (sv 0) (sa_cons (sv 1) (sa_cons (sv 3) (sa_cons (se_ix ok_ix (sv 2) (sv 4) (fun _ _=>rfl)) sa_nil))))
   refine ss_cons ?_ ?_
   ·refine s_if ?_ ?_ ?_
    ·exact st_cmp ok_is (sv 5) se_non (nomark _)
    ·refine ss_one ?_
     refine s_ret ?_
     refine se_tup (n:=2) ?_
     refine sa_cons ?_ ?_
     ·exact se_str
     refine sa_cons ?_ ?_
     ·exact sv 4
     exact sa_nil
    exact ss_nil
   refine ss_one ?_
   refine s_expr ?_
   exact se_append (sv 3) (sa_cons (sv 5) sa_nil)
  refine ss_one ?_
  refine s_ret ?_
  refine se_tup (n:=2) ?_
  refine sa_cons ?_ ?_
  ·exact se_str
  refine sa_cons ?_ ?_
  ·exact sv 3
  exact sa_nil) imp_q6
noncomputable def b_q24:DS:=(dSeq (dIfS (dTst (dOp (pEq false) (dOp pIx (dVar 3) (dC (.int 0))) (dC (.str "begin")))) (dRet (dCal S_q21 (dCons (dVar 0) (dCons (dVar 3) dNil)))) dNext)
  (dSeq (dIfS (dTst (dOp (pEq false) (dOp pIx (dVar 3) (dC (.int 0))) (dC (.str "start")))) (dRet (dCal S_q34 (dCons (dVar 0) (dCons (dVar 1) (dCons (dVar 3) dNil))))) dNext)
  (dSeq (dIfS (dTst (dOp (pEq false) (dOp pIx (dVar 3) (dC (.int 0))) (dC (.str "short")))) (dRet (dCal S_q33 (dCons (dVar 0) (dCons (dVar 2) (dCons (dVar 3) dNil))))) dNext)
  (dSeq (dIfS (dTst (dOp (pEq false) (dOp pIx (dVar 3) (dC (.int 0))) (dC (.str "in")))) (dRet (dCal S_q30 (dCons (dVar 0) (dCons (dVar 2) (dCons (dVar 3) dNil))))) dNext)
  (dSeq (dIfS (dTst (dOp (pEq false) (dOp pIx (dVar 3) (dC (.int 0))) (dC (.str "along")))) (dRet (dCal S_q20 (dCons (dVar 2) (dCons (dVar 3) dNil)))) dNext)
  (dRet (dCal S_q26 (dCons (dVar 0) (dCons (dVar 2) (dCons (dVar 3) dNil))))))))))
noncomputable def S_q24:DSp:=fun ds h Q=>∃ (c a:D) (C:Chart) (cs:List Clm) (st:Nat) (r:Row),ds=[c,nD st,a,rD r]∧ChD h c C∧WF C∧lsOf h a=some (cs.map clD)∧(∀ c ∈ cs,clOk C c)∧Q (oD clD (claimOf C st cs r)) h
theorem imp_q24:∀ ds h Q,S_q24 ds h Q→runD 4 b_q24 ds h Q:=by
 rintro ds h Q ⟨c,a,C,cs,st,r,rfl,hc,wf,ha,ok,q⟩
 cases r with
 |begin f d=>delta runD runX b_q24;simp only [List.map_cons,List.map_nil,List.cons_append,List.nil_append,List.length_cons,List.length_nil,List.replicate,Nat.reduceSub,Nat.reduceAdd,Nat.zero_add,Nat.sub_self];(try dsimp only);refine seq_intro fun N hN=>?_;simp only [rD,VV];exact ⟨c,C,cs,st,f,d,rfl,hc,q⟩
 |start d=>delta runD runX b_q24;simp only [List.map_cons,List.map_nil,List.cons_append,List.nil_append,List.length_cons,List.length_nil,List.replicate,Nat.reduceSub,Nat.reduceAdd,Nat.zero_add,Nat.sub_self];(try dsimp only);refine seq_intro fun N hN=>?_;simp only [rD,VV];subst hN;(try dsimp only);refine seq_intro fun N hN=>?_;simp only [VV];exact ⟨c,C,cs,st,d,rfl,hc,wf,q⟩
 |short k n j e=>delta runD runX b_q24;simp only [List.map_cons,List.map_nil,List.cons_append,List.nil_append,List.length_cons,List.length_nil,List.replicate,Nat.reduceSub,Nat.reduceAdd,Nat.zero_add,Nat.sub_self];(try dsimp only);refine seq_intro fun N hN=>?_;simp only [rD,VV];subst hN;(try dsimp only);refine seq_intro fun N hN=>?_;simp only [VV];subst hN;(try dsimp only);refine seq_intro fun N hN=>?_;simp only [VV];exact ⟨c,a,C,cs,st,k,n,j,e,rfl,hc,wf,ha,ok,q⟩
 |along k j=>delta runD runX b_q24;simp only [List.map_cons,List.map_nil,List.cons_append,List.nil_append,List.length_cons,List.length_nil,List.replicate,Nat.reduceSub,Nat.reduceAdd,Nat.zero_add,Nat.sub_self];(try dsimp only);refine seq_intro fun N hN=>?_;simp only [rD,VV];subst hN;(try dsimp only);refine seq_intro fun N hN=>?_;simp only [VV];subst hN;(try dsimp only);refine seq_intro fun N hN=>?_;simp only [VV];subst hN;(try dsimp only);refine seq_intro fun N hN=>?_;simp only [VV];subst hN;(try dsimp only);refine seq_intro fun N hN=>?_;simp only [VV];exact ⟨a,C,cs,st,k,j,rfl,ha,q⟩
 |mv w k n e =>
  cases w with
  |inn=>delta runD runX b_q24;simp only [List.map_cons,List.map_nil,List.cons_append,List.nil_append,List.length_cons,List.length_nil,List.replicate,Nat.reduceSub,Nat.reduceAdd,Nat.zero_add,Nat.sub_self];(try dsimp only);refine seq_intro fun N hN=>?_;simp only [rD,Mv.w,VV];subst hN;(try dsimp only);refine seq_intro fun N hN=>?_;simp only [VV];subst hN;(try dsimp only);refine seq_intro fun N hN=>?_;simp only [VV];subst hN;(try dsimp only);refine seq_intro fun N hN=>?_;simp only [VV];exact ⟨c,a,C,cs,st,k,n,e,rfl,hc,wf,ha,ok,q⟩
  |step=>delta runD runX b_q24;simp only [List.map_cons,List.map_nil,List.cons_append,List.nil_append,List.length_cons,List.length_nil,List.replicate,Nat.reduceSub,Nat.reduceAdd,Nat.zero_add,Nat.sub_self];(try dsimp only);refine seq_intro fun N hN=>?_;simp only [rD,Mv.w,VV];subst hN;(try dsimp only);refine seq_intro fun N hN=>?_;simp only [VV];subst hN;(try dsimp only);refine seq_intro fun N hN=>?_;simp only [VV];subst hN;(try dsimp only);refine seq_intro fun N hN=>?_;simp only [VV];subst hN;(try dsimp only);refine seq_intro fun N hN=>?_;simp only [VV];subst hN;simp only [VV];exact ⟨c,a,C,cs,st,.step,k,n,e,rfl,by decide,hc,wf,ha,ok,q⟩
  |over=>delta runD runX b_q24;simp only [List.map_cons,List.map_nil,List.cons_append,List.nil_append,List.length_cons,List.length_nil,List.replicate,Nat.reduceSub,Nat.reduceAdd,Nat.zero_add,Nat.sub_self];(try dsimp only);refine seq_intro fun N hN=>?_;simp only [rD,Mv.w,VV];subst hN;(try dsimp only);refine seq_intro fun N hN=>?_;simp only [VV];subst hN;(try dsimp only);refine seq_intro fun N hN=>?_;simp only [VV];subst hN;(try dsimp only);refine seq_intro fun N hN=>?_;simp only [VV];subst hN;(try dsimp only);refine seq_intro fun N hN=>?_;simp only [VV];subst hN;simp only [VV];exact ⟨c,a,C,cs,st,.over,k,n,e,rfl,by decide,hc,wf,ha,ok,q⟩
theorem ok_q24{f:Addr}{fd:FuncData}(F:Fun K "claim_of" "claim_of" s_q24 f fd)(T:Txt P w K mg)(C_q21:Cal P w K mg base 1 "begin_claim" ["chart","row"] (spD K 2 S_q21))(C_q34:Cal P w K mg base 2 "start_claim" ["chart","start","row"] (spD K 3 S_q34))(C_q33:Cal P w K mg base 4 "short_claim" ["chart","ahead","row"] (spD K 3 S_q33))(C_q30:Cal P w K mg base 4 "in_claim" ["chart","ahead","row"] (spD K 3 S_q30))(C_q20:Cal P w K mg base 2 "along_claim" ["ahead","row"] (spD K 2 S_q20))(C_q26:Cal P w K mg base 4 "edge_claim" ["chart","ahead","row"] (spD K 3 S_q26)):FnOk P w K mg base CX0 5 f fd ["chart","start","ahead","row"] (spD K 4 S_q24) :=
 fn_ok (k:=4) (b:=b_q24) F sc_q24 (fun cdv A outer s H E hr=>by
  refine ss_cons ?_ ?_
  ·refine s_if ?_ ?_ ?_
   ·exact st_cmp (ok_eq hr.units) (se_ix ok_ix (sv 3) se_int (fun _ _=>rfl)) se_str (nomark _)
   ·refine ss_one ?_
    refine s_ret ?_
    exact se_cal C_q21 (hr.mono (by decide)) rfl (sa_cons (sv 0) (sa_cons (sv 3) sa_nil))
   exact ss_nil
  refine ss_cons ?_ ?_
  ·refine s_if ?_ ?_ ?_
   ·exact st_cmp (ok_eq hr.units) (se_ix ok_ix (sv 3) se_int (fun _ _=>rfl)) se_str (nomark _)
   ·refine ss_one ?_
    refine s_ret ?_
    exact se_cal C_q34 (hr.mono (by decide)) rfl (sa_cons (sv 0) (sa_cons (sv 1) (sa_cons (sv 3) sa_nil)))
   exact ss_nil
  refine ss_cons ?_ ?_
  ·refine s_if ?_ ?_ ?_
   ·exact st_cmp (ok_eq hr.units) (se_ix ok_ix (sv 3) se_int (fun _ _=>rfl)) se_str (nomark _)
   ·refine ss_one ?_
    refine s_ret ?_
    exact se_cal C_q33 (hr.mono (by decide)) rfl (sa_cons (sv 0) (sa_cons (sv 2) (sa_cons (sv 3) sa_nil)))
   exact ss_nil
  refine ss_cons ?_ ?_
  ·refine s_if ?_ ?_ ?_
   ·exact st_cmp (ok_eq hr.units) (se_ix ok_ix (sv 3) se_int (fun _ _=>rfl)) se_str (nomark _)
   ·refine ss_one ?_
    refine s_ret ?_
    exact se_cal C_q30 (hr.mono (by decide)) rfl (sa_cons (sv 0) (sa_cons (sv 2) (sa_cons (sv 3) sa_nil)))
   exact ss_nil
  refine ss_cons ?_ ?_
  ·refine s_if ?_ ?_ ?_
   ·exact st_cmp (ok_eq hr.units) (se_ix ok_ix (sv 3) se_int (fun _ _=>rfl)) se_str (nomark _)
   ·refine ss_one ?_
    refine s_ret ?_
    exact se_cal C_q20 (hr.mono (by decide)) rfl (sa_cons (sv 2) (sa_cons (sv 3) sa_nil))
   exact ss_nil
  refine ss_one ?_
  refine s_ret ?_
  exact se_cal C_q26 (hr.mono (by decide)) rfl (sa_cons (sv 0) (sa_cons (sv 2) (sa_cons (sv 3) sa_nil)))) imp_q24
noncomputable def b_q25:DS:=(dSeq (dAsg (dTk dNil) (dName 3))
  (dSeq (dFor (dISeq (dVar 2)) (dName 4) (dSeq (dAsg (dCal S_q24 (dCons (dVar 0) (dCons (dVar 1) (dCons (dVar 3) (dCons (dVar 4) dNil))))) (dName 5))
  (dSeq (dIfS (dTst (dOp (pIs false) (dVar 5) (dC .non))) (dRaise "NoPaper" ["row"] (dCons (dCB pLen (dCons (dVar 3) dNil)) dNil)) dNext)
  (dDrop (dAppend (dVar 3) (dCons (dVar 5) dNil))))))
  (dRet (dVar 3))))
noncomputable def S_q25:DSpX:=fun ds h Q X'=>∃ (c a:D) (C:Chart) (rs:List Row) (st:Nat),ds=[c,nD st,a]∧ChD h c C∧WF C∧lsOf h a=some (rs.map rD)∧rs.length ≤ 5000∧(∀ n,runC C st rs [] = .inl n→X' "NoPaper" [("row",(n:Int))] h)∧(∀ cs,runC C st rs [] = .inr cs→Q (.lst (cs.map clD)) h)
theorem imp_q25:∀ ds h Q X',S_q25 ds h Q X'→runX 6 b_q25 ds h (Dr h Q) (DrX h X'):=by
 rintro ds h Q X' ⟨c,a,C,rs,st,rfl,hc,wf,ha,hl,hx,q⟩
 delta runD runX b_q25;simp only [List.map_cons,List.map_nil,List.cons_append,List.nil_append,List.length_cons,List.length_nil,List.replicate,Nat.reduceSub,Nat.reduceAdd,Nat.zero_add,Nat.sub_self]
 (try dsimp only);refine seq_intro fun N hN=>?_
 simp only [VV]
 subst hN
 (try dsimp only);refine seq_intro fun N hN=>?_
 have p1:∀ o,Pre h (h ++ [o]):=fun o=>Pre.app _ _
 obtain ⟨w,s1,s2⟩:=src_pre ha
 simp only [s1 _ (p1 _),VV]
 refine forL_map (fun p δ h'=>∃ (cl:List Clm) (x1 x2:Option D),δ=[some c,some (nD st),some a,some (.ref h.length),x1,x2]∧h'=h ++ [.lst (cl.map clD)]∧(∀ c ∈ cl,clOk C c)∧cl.length=p.length∧runC C st (rs.drop p.length) cl=runC C st rs []) ⟨[],none,none,rfl,rfl,(fun c hc=>nomatch hc),rfl,rfl⟩ ?_ ?_ ?_
 ·rintro p δ h' ⟨cl,x1,x2,rfl,rfl,_⟩
  exact s2 _ _ (p1 _)
 ·rintro p r rest δ h' N1 e ⟨cl,x1,x2,rfl,rfl,ok,hlen,hall⟩ hN1
  have hd:rs.drop p.length=r :: rest:=by rw [e];simp
  have hb:cl.length < rs.length:=by rw [hlen,e];simp
  rw [hd] at hall
  simp only [VV]
  (try dsimp only);refine seq_intro fun N hN=>?_
  simp only [VV]
  refine ⟨c,.ref h.length,C,cl,st,r,rfl,hc.mono (p1 _),wf,ls_new _ _,ok,?_⟩
  subst hN
  (try dsimp only);refine seq_intro fun N hN=>?_
  cases hr:claimOf C st cl r with
  |none =>
   rw [runC_none hr] at hall
   have hx':DrX h X' "NoPaper" ((["row"]:List Str).zip [(cl.length:Int)]) (h ++ [O.lst (cl.map clD)]):=Dr.drop rfl (hx _ hall.symm)
   simp only [oD,len_ls (ls_new h (cl.map clD)),List.length_map,VV]
   refine ⟨[(cl.length:Int)],rfl,rfl,fun j hj=>?_,hx'⟩
   rw [List.mem_singleton.mp hj]
   by_cases z:cl.length=0
   ·rw [z];decide
   ·exact Nat.lt_of_lt_of_le ((Nat.log2_lt (by first | decide | omega)).mpr (show ((cl.length:Int)).natAbs < 2 ^ 13 by first | decide | omega)) (by decide)
  |some k =>
   rw [runC_some hr] at hall
   simp only [oD,clD_non,VV]
   subst hN
   simp only [get_new,set_new,VV]
   refine ⟨by rw [List.length_map];omega,hN1 _ _ ⟨cl ++ [k],_,_,rfl,by rw [List.map_append];rfl,fun c hc'=>?_,by simp [hlen],?_⟩⟩
   ·rcases List.mem_append.mp hc' with z | z
    ·exact ok c z
    ·rw [List.mem_singleton.mp z];exact claim_ok wf ok hr
   ·have hd2:rs.drop (p ++ [r]).length=rest:=by rw [e];simp
    rw [hd2];exact hall
 ·rintro δ h' ⟨cl,x1,x2,rfl,rfl,ok,hlen,hall⟩
  rw [List.drop_length] at hall
  subst hN
  simp only [VV]
  have:=Dr.dropL (h:=h) (Q:=Q) (xs:=cl.map clD) (g1:=[]) (g2:=[]) (k:=h.length) (nrDs_map nrD_clD cl) (by simp) (q _ hall.symm)
  simpa using this
theorem ok_q25{f:Addr}{fd:FuncData}(F:Fun K "claims" "claims" s_q25 f fd)(T:Txt P w K mg)(R_NoPaper:RaiseX P w K mg base 1 "NoPaper" ["self","row"] ["row"])(C_q24:Cal P w K mg base 5 "claim_of" ["chart","start","ahead","row"] (spD K 4 S_q24)):FnOk P w K mg base (CXE P w) 6 f fd ["chart","start","rows"] (spX K 3 S_q25) :=
 fn_okX (k:=5) (b:=b_q25) F sc_q25 (fun cdv A outer s H E hr=>by
  refine ss_cons ?_ ?_
  ·refine s_set (i:=3) ?_ ?_ ?_ ?_
   ·exact sc_q25.nd
   ·exact rfl
   ·exact Or.inl rfl
   exact se_t (sn_lst sa_nil)
  refine ss_cons ?_ ?_
  ·refine s_for ?_ ?_ ?_ ?_ ?_
   ·exact ownX ⟨rfl,rfl⟩
   ·exact rfl
   ·exact si_seq (sv 2)
   ·exact sg_name (i:=4) sc_q25.nd rfl (Or.inl rfl)
   refine ss_cons ?_ ?_
   ·refine s_set (i:=5) ?_ ?_ ?_ ?_
    ·exact sc_q25.nd
    ·exact rfl
    ·exact Or.inl rfl
    exact se_cal C_q24 (hr.mono (by decide)) rfl (sa_cons (sv 0) (sa_cons (sv 1) (sa_cons (sv 3) (sa_cons (sv 4) sa_nil))))
   refine ss_cons ?_ ?_
   ·refine s_if ?_ ?_ ?_
    ·exact st_cmp ok_is (sv 5) se_non (nomark _)
    ·refine ss_one ?_
     exact s_raise R_NoPaper (hr.mono (by decide)) rfl (sa_cons (se_callB ok_len rfl T.b_len PySem.boot_len (sa_cons (sv 3) sa_nil)) sa_nil)
    exact ss_nil
   refine ss_one ?_
   refine s_expr ?_
   exact se_append (sv 3) (sa_cons (sv 5) sa_nil)
  refine ss_one ?_
  refine s_ret ?_
  exact sv 3) imp_q25
noncomputable def b_q19:DS:=(dSeq (dAsg (dC .non) (dName 3))
  (dSeq (dAsg (dC .non) (dName 4))
  (dSeq (dTryS 4 S_q25 (dCons (dVar 0) (dCons (dVar 1) (dCons (dVar 2) dNil))) "NoPaper" 5 (dAsg (dVar 5) (dName 3)))
  (dSeq (dIfS (dTst (dOp (pIs false) (dVar 3) (dC .non))) (dRet (dTup (dCons (dC (.str "claims")) (dCons (dVar 4) dNil)))) dNext)
  (dSeq (dIfS (dOr (dNot (dTr (dIsX "NoPaper" true (dVar 3)))) (dNot (dTr (dIsX "NoPaper" true (dVar 3))))) (dRet (dTup (dCons (dC (.str "other")) (dCons (dC (.int 0)) dNil)))) dNext)
  (dSeq (dIfS (dOr (dTr (dIsX "NoPaper" false (dVar 3))) (dTr (dIsinst "bool" (dXA "NoPaper" "row" (dVar 3))))) (dRet (dTup (dCons (dC (.str "other")) (dCons (dC (.int 0)) dNil)))) dNext)
  (dRet (dTup (dCons (dC (.str "no")) (dCons (dXA "NoPaper" "row" (dVar 3)) dNil))))))))))
noncomputable def S_q19:DSp:=fun ds h Q=>∃ (c a:D) (C:Chart) (rs:List Row) (st:Nat),ds=[c,nD st,a]∧ChD h c C∧WF C∧lsOf h a=some (rs.map rD)∧rs.length ≤ 5000∧Q (dueD (runC C st rs [])) h
theorem imp_q19:∀ ds h Q,S_q19 ds h Q→runD 6 b_q19 ds h Q:=by
 rintro ds h Q ⟨c,a,C,rs,st,rfl,hc,wf,ha,hl,q⟩
 delta runD runX b_q19;simp only [List.map_cons,List.map_nil,List.cons_append,List.nil_append,List.length_cons,List.length_nil,List.replicate,Nat.reduceSub,Nat.reduceAdd,Nat.zero_add,Nat.sub_self]
 (try dsimp only);refine seq_intro fun N hN=>?_
 simp only [VV]
 subst hN
 (try dsimp only);refine seq_intro fun N hN=>?_
 simp only [VV]
 subst hN
 (try dsimp only);refine seq_intro fun N hN=>?_
 simp only [VV]
 refine ⟨c,a,C,rs,st,rfl,hc,wf,ha,hl,fun n e=>?_,fun cs e=>?_⟩
 ·rw [e] at q
  refine ⟨rfl,?_⟩
  subst hN
  (try dsimp only);refine seq_intro fun N hN=>?_
  have nn:∀ c fs,isNon (D.exc c fs)=false:=fun _ _=>rfl
  simp only [nn,VV]
  subst hN
  (try dsimp only);refine seq_intro fun N hN=>?_
  have lk:([((Str.ofString "row"),(n:Int))]:List (Str×Int)).lookup (Str.ofString "row")=some (n:Int):=rfl
  simp only [true_and,VV]
  subst hN
  (try dsimp only);refine seq_intro fun N hN=>?_
  simp only [true_and,lk,VV]
  subst hN
  simp only [true_and,lk,VV]
  exact q
 ·rw [e] at q
  subst hN
  (try dsimp only);refine seq_intro fun N hN=>?_
  simp only [VV]
  exact q
theorem ok_q19{f:Addr}{fd:FuncData}(F:Fun K "_law_told" "_law_told" s_q19 f fd)(T:Txt P w K mg)(C_q25:CalX P w K mg base 6 "claims" ["chart","start","rows"] (spX K 3 S_q25)):FnOk P w K mg base CX0 7 f fd ["_law_chart_here","_law_start_here","_law_rows"] (spD K 3 S_q19) :=
 fn_ok (k:=6) (b:=b_q19) F sc_q19 (fun cdv A outer s H E hr=>by
  refine ss_cons ?_ ?_
  ·refine s_set (i:=3) ?_ ?_ ?_ ?_
   ·exact sc_q19.nd
   ·exact rfl
   ·exact Or.inl rfl
   exact se_non
  refine ss_cons ?_ ?_
  ·refine s_set (i:=4) ?_ ?_ ?_ ?_
   ·exact sc_q19.nd
   ·exact rfl
   ·exact Or.inl rfl
   exact se_non
  refine ss_cons ?_ ?_
  ·exact s_tryS ⟨rfl,rfl⟩ (fun _ _ z=>z) sc_q19.nd rfl (Or.inl rfl) rfl rfl C_q25 (hr.mono (by decide)) rfl (sa_cons (sv 0) (sa_cons (sv 1) (sa_cons (sv 2) sa_nil))) T.k_CallError rfl (fun a=>(ss_one (s_set (i:=3) sc_q19.nd rfl (Or.inl rfl) (sv 5))))
  refine ss_cons ?_ ?_
  ·refine s_if ?_ ?_ ?_
   ·exact st_cmp ok_is (sv 3) se_non (nomark _)
   ·refine ss_one ?_
    refine s_ret ?_
    refine se_tup (n:=2) ?_
    refine sa_cons ?_ ?_
    ·exact se_str
    refine sa_cons ?_ ?_
    ·exact sv 4
    exact sa_nil
   exact ss_nil
  refine ss_cons ?_ ?_
  ·refine s_if ?_ ?_ ?_
   ·exact st_w (sw_or (st_not (st_truth (se_isN rfl T.b_isinstance T.x_NoPaper T.i_NoPaper rfl (sv 3)))) (sw_or1 (st_not (st_truth (se_isV rfl T.b_isinstance T.x_NoPaper T.i_ValueError rfl T.b_ValueError (sv 3))))))
   ·refine ss_one ?_
    refine s_ret ?_
    refine se_tup (n:=2) ?_
    refine sa_cons ?_ ?_
    ·exact se_str
    refine sa_cons ?_ ?_
    ·exact se_int
    exact sa_nil
   exact ss_nil
  refine ss_cons ?_ ?_
  ·refine s_if ?_ ?_ ?_
   ·exact st_w (sw_or (st_truth (se_is6 rfl T.b_isinstance T.x_NoPaper T.i_NoChart T.i_NoName T.i_NoTable T.i_NoText T.i_NoWay T.i_TooLong rfl rfl rfl rfl rfl rfl (sv 3))) (sw_or1 (st_truth (se_isinst (by decide) rfl T.b_isinstance (se_xa T.a_row (sv 3)) (pe_bltn (v:=.ty "bool") rfl T.b_bool PyProof.Rows.boot_bool rfl)))))
   ·refine ss_one ?_
    refine s_ret ?_
    refine se_tup (n:=2) ?_
    refine sa_cons ?_ ?_
    ·exact se_str
    refine sa_cons ?_ ?_
    ·exact se_int
    exact sa_nil
   exact ss_nil
  refine ss_one ?_
  refine s_ret ?_
  refine se_tup (n:=2) ?_
  refine sa_cons ?_ ?_
  ·exact se_str
  refine sa_cons ?_ ?_
  ·exact se_xa T.a_row (sv 3)
  exact sa_nil) imp_q19
noncomputable def b_q31:DS:=(dSeq (dAsg (dOp (pEq false) (dOp pMod (dOp pDiv (dCal S_q1 (dCons (dVar 0) (dCons (dC (.int 0)) dNil))) (dC (.int 56))) (dC (.int 6))) (dC (.int 1))) (dName 1))
  (dSeq (dAsg (dCal S_q2 (dCons (dVar 0) (dCons (dC (.int 6)) (dCons (dC (.int 4)) (dCons (dOp pIx (dV (dCons (dC (.int 4)) (dCons (dC (.int 10)) dNil))) (dCB pInt (dCons (dVar 1) dNil))) (dCons (dOp pIx (dV (dCons (dC (.int 4)) (dCons (dC (.int 6)) dNil))) (dCB pInt (dCons (dVar 1) dNil))) dNil)))))) (dName 2))
  (dSeq (dAsg (dCal S_q17 (dCons (dVar 0) (dCons (dVar 2) dNil))) (dName 3))
  (dSeq (dAsg (dCal S_q13 (dCons (dVar 2) (dCons (dVar 3) (dCons (dSl (dVar 0) (dPart (dC (.int 20))) (dPart (dC (.int 50)))) dNil)))) (dUnp 2 (dGCons (dName 4) (dGCons (dName 5) dGNil))))
  (dSeq (dAsg (dTk (dCons (dOp pPlus (dCB pSum (dCons (dV (dComp [none] (dISeq (dSl (dVar 0) dNoPart (dPart (dC (.int 64))))) (dName 0) dNoIf (dOp pMod (dVar 0) (dC (.int 1000003))))) dNil)) (dC (.int 5))) dNil)) (dName 6))
  (dSeq (dAsg (dCal S_q16 (dCons (dVar 4) (dCons (dVar 6) dNil))) (dName 7))
  (dSeq (dAsg (dVar 3) (dName 8))
  (dSeq (dIfS (dTst (dOp (pEq false) (dCal S_q11 (dCons (dVar 6) (dCons (dC (.int 4)) dNil))) (dC (.int 1)))) (dAsg (dCal S_q11 (dCons (dVar 6) (dCons (dOp pShl (dC (.int 1)) (dOp pIx (dOp pIx (dVar 2) (dC (.int 0))) (dC (.int 1)))) dNil))) (dName 8)) dNext)
  (dSeq (dAsg (dV (dListOf (dCons (dVar 7) dNil))) (dName 9))
  (dSeq (dAsg (dCal S_q4 (dCons (dVar 2) dNil)) (dName 10))
  (dSeq (dAsg (dCal S_q6 (dCons (dVar 2) (dCons (dVar 8) (dCons (dVar 7) dNil)))) (dName 11))
  (dSeq (dIfS (dOr (dTst (dOp (pEq true) (dCal S_q19 (dCons (dVar 10) (dCons (dVar 8) (dCons (dVar 7) dNil)))) (dVar 11))) (dTst (dOp (pEq true) (dCal S_q19 (dCons (dVar 10) (dCons (dVar 3) (dCons (dVar 4) dNil)))) (dTup (dCons (dC (.str "claims")) (dCons (dVar 5) dNil)))))) (dRet (dC (.bl false))) dNext)
  (dRet (dAndV (dOp (pEq false) (dCal S_q19 (dCons (dVar 10) (dCons (dVar 8) (dCons (dVar 7) dNil)))) (dVar 11)) (dAndV (dOp (pEq false) (dVar 7) (dVar 9)) (dOp (pEq false) (dVar 10) (dVar 2)))))))))))))))))
noncomputable def S_q31:DSp:=runD 12 b_q31
theorem imp_q31:∀ ds h Q,S_q31 ds h Q→runD 12 b_q31 ds h Q:=fun _ _ _ h=>h
theorem law_true(ns:List Int)(hl:ns.length ≤ 63)(hb:∀ x ∈ ns,Builtin.Int.intBits x ≤ 1048576):S_q31 [.scr (ns.map D.int)] [] (fun v _=>v = .bl true):=by
 unfold S_q31
 delta runD runX b_q31;simp only [List.map_cons,List.map_nil,List.cons_append,List.nil_append,List.length_cons,List.length_nil,List.replicate,Nat.reduceSub,Nat.reduceAdd,Nat.zero_add,Nat.sub_self]
 (try dsimp only);refine seq_intro fun N hN=>?_
 simp only [VV]
 refine ⟨ns,0,rfl,hl,hb,by first | decide | omega,fun r hr=>?_⟩
 simp only [VV]
 refine ⟨by first | decide | omega,by first | decide | omega,?_⟩
 generalize hwide:(r / 56 % 6 == 1)=wide
 subst hN
 (try dsimp only);refine seq_intro fun N hN=>?_
 obtain ⟨wd,dp,w1,w2,w3,w4,e1,e2⟩:∃ wd dp:Nat,1 ≤ wd∧wd ≤ 10∧1 ≤ dp∧dp ≤ 6∧atI [D.int 4,D.int 10] (if wide=true then 1 else 0)=some (nD wd)∧atI [D.int 4,D.int 6] (if wide=true then 1 else 0)=some (nD dp):=by
  cases wide with
  |true=>exact ⟨10,6,by decide,by decide,by decide,by decide,rfl,rfl⟩
  |false=>exact ⟨4,4,by decide,by decide,by decide,by decide,rfl,rfl⟩
 simp only [e1,e2,VV]
 refine ⟨ns,6,4,wd,dp,rfl,hl,hb,by decide,by decide,w1,w2,w3,w4,fun C wf=>?_⟩
 subst hN
 (try dsimp only);refine seq_intro fun N hN=>?_
 simp only [VV]
 obtain ⟨F0,hF0⟩:∃ d,C[0]?=some d:=⟨_,List.getElem?_eq_getElem (by have:=wf.one;omega)⟩
 obtain ⟨_,_,f1,f6,_,_⟩:=wf.fn 0 F0 hF0
 refine ⟨ns,cD C,C,F0,rfl,hl,hb,ChD.of _ C,hF0,f1,f6,fun st st1 st2=>?_⟩
 subst hN
 (try dsimp only);refine seq_intro fun N hN=>?_
 obtain ⟨ms,hms,hml,hmb⟩:=cut_map D.int ns (some 20) (some 50)
 simp only [hms,VV]
 refine ⟨C,st,F0,ms,rfl,wf,hF0,st1,st2,by first | decide | omega,fun x hx=>hb x (hmb x hx),fun rs cs hr1 hrl hcl=>?_⟩
 simp only [VV]
 refine ⟨trivial,?_⟩
 subst hN
 (try dsimp only);refine seq_intro fun N hN=>?_
 obtain ⟨ms2,hms2,hml2,_⟩:=cut_map D.int ns none (some 64)
 simp only [hms2,VV]
 refine ⟨by rw [List.length_map];omega,?_⟩
 refine comp1n (fun x:Int=>.int (x % 1000003)) Src.ok_nil none (fun x hx K k=>by simp only [VV];exact ⟨by decide,k⟩) ?_
 refine ⟨_,ms2.map fun x=>x % 1000003,rfl,by simp only [VV];rw [List.map_map];rfl,?_⟩
 simp only [VV]
 generalize (ms2.map fun x=>x % 1000003).sum + 5=s0
 subst hN
 (try dsimp only);refine seq_intro fun N hN=>?_
 simp only [VV]
 refine ⟨rs,0,s0,rfl,rfl,hr1,by first | decide | omega,fun sp s1 hsp=>?_⟩
 simp only [VV]
 subst hN
 (try dsimp only);refine seq_intro fun N hN=>?_
 simp only [VV]
 subst hN
 (try dsimp only);refine seq_intro fun N hN=>?_
 have ix0:∀ h',ixD h' (cD C) (.int 0)=some (.tup [nD F0.places,nD F0.facts,.lst (F0.edges.map eD)]):=fun h'=>by
  show atI (C.map fD) 0=_
  rw [show (0:Int)=((0:Nat):Int) from rfl,atN,List.getElem?_map,hF0];rfl
 have rest:∀ (s:Int) (ot:Nat),ot < 2 ^ F0.facts→N [some (.scr (ns.map .int)),some (.bl wide),some (cD C),some (nD st),some (.lst (rs.map rD)),some (.lst (cs.map clD)),some (.ref 0),some (.lst (sp.map rD)),some (nD ot),none,none,none] [.lst [.int s]]:=by
  intro s ot hot
  subst hN
  (try dsimp only);refine seq_intro fun N hN=>?_
  simp only [VV]
  subst hN
  (try dsimp only);refine seq_intro fun N hN=>?_
  simp only [VV]
  refine ⟨C,rfl,wf.six,?_⟩
  have chd:ChD ([O.lst [.int s]] ++ C.map fO) (cR 1 C) C:=by
   have:=cR_ch [O.lst [.int s]] [] C
   simpa using this
  have hC:∀ (i:Nat) (F:Fn),C[i]?=some F→([O.lst [.int s]] ++ C.map fO)[1 + i]?=some (.lst (F.edges.map eD)):=fun i F hF=>by
   rw [show 1 + i=i + 1 by first | decide | omega]
   show (C.map fO)[i]?=_
   rw [List.getElem?_map,hF];rfl
  generalize hH:[O.lst [.int s]] ++ C.map fO=H at chd hC
  have hH':O.lst [.int s] :: C.map fO=H:=hH
  show N [some (.scr (ns.map .int)),some (.bl wide),some (cD C),some (nD st),some (.lst (rs.map rD)),some (.lst (cs.map clD)),some (.ref 0),some (.lst (sp.map rD)),some (nD ot),some (.lst (sp.map rD)),some (cR 1 C),none] H
  subst hN
  (try dsimp only);refine seq_intro fun N hN=>?_
  simp only [VV]
  refine ⟨cD C,.lst (sp.map rD),C,sp,ot,F0,rfl,ChD.of _ C,wf,rfl,by first | decide | omega,hF0,hot,?_⟩
  subst hN
  (try dsimp only);refine seq_intro fun N hN=>?_
  simp only [VV1]
  refine ⟨cR 1 C,.lst (sp.map rD),C,sp,ot,rfl,chd,wf,rfl,by first | decide | omega,?_⟩
  refine pEq_same (eqS_due _) (pd_due _ _) (pd_due _ _) (by decide) ?_
  dsimp only
  rw [Bool.not_true]
  refine iteF ?_
  refine ⟨cR 1 C,.lst (rs.map rD),C,rs,st,rfl,chd,wf,rfl,by first | decide | omega,?_⟩
  rw [runC_all hcl]
  refine pEq_same rfl (pd_due _ (.inr cs)) (pd_due _ (.inr cs)) (by decide) ?_
  dsimp only
  rw [Bool.not_true]
  refine iteF ?_
  subst hN
  simp only [VV1]
  refine ⟨cR 1 C,.lst (sp.map rD),C,sp,ot,rfl,chd,wf,rfl,by first | decide | omega,?_⟩
  refine pEq_same (eqS_due _) (pd_due _ _) (pd_due _ _) (by decide) ?_
  simp only [VV1]
  refine pEq_same rfl (.lst (Pds.map (pd_r _))) (.lst (Pds.map (pd_r _))) (by decide) ?_
  simp only [VV1]
  exact pEq_same rfl (pd_cr hC) (pd_c _ C) (by decide) rfl
 (try dsimp only);refine if_intro fun A1 B1 hA hB=>?_
 simp only [VV]
 refine ⟨0,s1,4,rfl,rfl,by first | decide | omega,fun s2 r2 hr2=>?_⟩
 simp only [VV]
 refine iteB (fun z=>?_) (fun z=>?_)
 ·subst hA
  simp only [ix0,VV]
  refine ⟨⟨by first | decide | omega,by first | decide | omega,by decide⟩,0,s2,_,rfl,rfl,by rw [shl1];have:=Nat.two_pow_pos F0.facts;omega,fun s3 ot hot=>?_⟩
  rw [shl1] at hot
  simp only [VV]
  exact rest _ _ (by first | decide | omega)
 ·subst hB
  simp only [VV]
  exact rest _ _ st2
theorem ok_q31{f:Addr}{fd:FuncData}(F:Fun K "law" "law" s_q31 f fd)(T:Txt P w K mg)(C_q1:Cal P w K mg base 1 "_law_cell" ["_law_script","_law_k"] (spD K 2 S_q1))(C_q2:Cal P w K mg base 4 "_law_chart" ["_law_script","_law_at","_law_many","_law_wide","_law_deep"] (spD K 5 S_q2))(C_q17:Cal P w K mg base 2 "_law_start" ["_law_script","_law_chart_here"] (spD K 2 S_q17))(C_q13:Cal P w K mg base 4 "_law_paper" ["_law_chart_here","_law_start_here","_law_cells"] (spD K 3 S_q13))(C_q16:Cal P w K mg base 2 "_law_spoilt" ["_law_rows","_law_state"] (spD K 2 S_q16))(C_q11:Cal P w K mg base 1 "_law_next" ["_law_state","_law_many"] (spD K 2 S_q11))(C_q4:Cal P w K mg base 1 "_law_copy" ["_law_chart_here"] (spD K 1 S_q4))(C_q6:Cal P w K mg base 4 "_law_due" ["_law_chart_here","_law_start_here","_law_rows"] (spD K 3 S_q6))(C_q19:Cal P w K mg base 7 "_law_told" ["_law_chart_here","_law_start_here","_law_rows"] (spD K 3 S_q19)):FnOk P w K mg base CX0 8 f fd ["_law_script"] (spD K 1 S_q31) :=
 fn_ok (k:=7) (b:=b_q31) F sc_q31 (fun cdv A outer s H E hr=>by
  refine ss_cons ?_ ?_
  ·refine s_set (i:=1) ?_ ?_ ?_ ?_
   ·exact sc_q31.nd
   ·exact rfl
   ·exact Or.inl rfl
   exact se_cmp (ok_eq hr.units) (se_op ok_mod (se_op ok_div (se_cal C_q1 (hr.mono (by decide)) rfl (sa_cons (sv 0) (sa_cons se_int sa_nil))) se_int) se_int) se_int (nomark _)
  refine ss_cons ?_ ?_
  ·refine s_set (i:=2) ?_ ?_ ?_ ?_
   ·exact sc_q31.nd
   ·exact rfl
   ·exact Or.inl rfl
   exact se_cal C_q2 (hr.mono (by decide)) rfl (sa_cons (sv 0) (sa_cons se_int (sa_cons se_int (sa_cons (se_ix ok_ix (se_v (sn_lst (sa_cons se_int (sa_cons se_int sa_nil)))) (se_callTy ok_int rfl T.b_int PyProof.Rows.boot_int (sa_cons (sv 1) sa_nil)) (fun _ _=>rfl)) (sa_cons (se_ix ok_ix (se_v (sn_lst (sa_cons se_int (sa_cons se_int sa_nil)))) (se_callTy ok_int rfl T.b_int PyProof.Rows.boot_int (sa_cons (sv 1) sa_nil)) (fun _ _=>rfl)) sa_nil)))))
  refine ss_cons ?_ ?_
  ·refine s_set (i:=3) ?_ ?_ ?_ ?_
   ·exact sc_q31.nd
   ·exact rfl
   ·exact Or.inl rfl
   exact se_cal C_q17 (hr.mono (by decide)) rfl (sa_cons (sv 0) (sa_cons (sv 2) sa_nil))
  refine ss_cons ?_ ?_
  ·exact s_asg (se_cal C_q13 (hr.mono (by decide)) rfl (sa_cons (sv 2) (sa_cons (sv 3) (sa_cons (se_sl (sv 0) (so_some se_int) (so_some se_int)) sa_nil)))) (sg_tup rfl (sgs_cons (sg_name (i:=4) sc_q31.nd rfl (Or.inl rfl)) (sgs_cons (sg_name (i:=5) sc_q31.nd rfl (Or.inl rfl)) sgs_nil)))
  refine ss_cons ?_ ?_
  ·refine s_set (i:=6) ?_ ?_ ?_ ?_
   ·exact sc_q31.nd
   ·exact rfl
   ·exact Or.inl rfl
   exact se_t (sn_lst (sa_cons (se_op ok_plus (se_callB (ok_sum rfl) rfl T.b_sum PyProof.Rows.boot_sum (sa_cons (se_v (sn_comp rfl (N':= ["_law_cell_here"]) (js:=[none]) ⟨rfl,by decide +kernel,rfl,rfl,rfl⟩ (si_seq (se_sl (sv 0) so_none (so_some se_int))) (fun s0 H0 fp=>⟨(sg_name (i:=0) (show (["_law_cell_here"]:List Str).Nodup by decide +kernel) rfl (Or.inl rfl)),sf_nil,(se_op ok_mod (sv 0) se_int)⟩))) sa_nil)) se_int) sa_nil))
  refine ss_cons ?_ ?_
  ·refine s_set (i:=7) ?_ ?_ ?_ ?_
   ·exact sc_q31.nd
   ·exact rfl
   ·exact Or.inl rfl
   exact se_cal C_q16 (hr.mono (by decide)) rfl (sa_cons (sv 4) (sa_cons (sv 6) sa_nil))
  refine ss_cons ?_ ?_
  ·refine s_set (i:=8) ?_ ?_ ?_ ?_
   ·exact sc_q31.nd
   ·exact rfl
   ·exact Or.inl rfl
   exact sv 3
  refine ss_cons ?_ ?_
  ·refine s_if ?_ ?_ ?_
   ·exact st_cmp (ok_eq hr.units) (se_cal C_q11 (hr.mono (by decide)) rfl (sa_cons (sv 6) (sa_cons se_int sa_nil))) se_int (nomark _)
   ·refine ss_one ?_
    refine s_set (i:=8) ?_ ?_ ?_ ?_
    ·exact sc_q31.nd
    ·exact rfl
    ·exact Or.inl rfl
    exact se_cal C_q11 (hr.mono (by decide)) rfl (sa_cons (sv 6) (sa_cons (se_op ok_shl se_int (se_ix ok_ix (se_ix ok_ix (sv 2) se_int (fun _ _=>rfl)) se_int (fun _ _=>rfl))) sa_nil))
   exact ss_nil
  refine ss_cons ?_ ?_
  ·refine s_set (i:=9) ?_ ?_ ?_ ?_
   ·exact sc_q31.nd
   ·exact rfl
   ·exact Or.inl rfl
   refine se_v ?_
   exact sn_list rfl T.b_list (sa_cons (sv 7) sa_nil)
  refine ss_cons ?_ ?_
  ·refine s_set (i:=10) ?_ ?_ ?_ ?_
   ·exact sc_q31.nd
   ·exact rfl
   ·exact Or.inl rfl
   exact se_cal C_q4 (hr.mono (by decide)) rfl (sa_cons (sv 2) sa_nil)
  refine ss_cons ?_ ?_
  ·refine s_set (i:=11) ?_ ?_ ?_ ?_
   ·exact sc_q31.nd
   ·exact rfl
   ·exact Or.inl rfl
   exact se_cal C_q6 (hr.mono (by decide)) rfl (sa_cons (sv 2) (sa_cons (sv 8) (sa_cons (sv 7) sa_nil)))
  refine ss_cons ?_ ?_
  ·refine s_if ?_ ?_ ?_
   ·exact st_w (sw_or (st_cmp (ok_ne hr.units) (se_cal C_q19 (hr.mono (by decide)) rfl (sa_cons (sv 10) (sa_cons (sv 8) (sa_cons (sv 7) sa_nil)))) (sv 11) (nomark _)) (sw_or1 (st_cmp (ok_ne hr.units) (se_cal C_q19 (hr.mono (by decide)) rfl (sa_cons (sv 10) (sa_cons (sv 3) (sa_cons (sv 4) sa_nil)))) (se_tup (sa_cons se_str (sa_cons (sv 5) sa_nil))) (nomark _))))
   ·refine ss_one ?_
    refine s_ret ?_
    exact se_bl
   exact ss_nil
  refine ss_one ?_
  refine s_ret ?_
  exact se_and (se_cmp (ok_eq hr.units) (se_cal C_q19 (hr.mono (by decide)) rfl (sa_cons (sv 10) (sa_cons (sv 8) (sa_cons (sv 7) sa_nil)))) (sv 11) (nomark _)) (se_and (se_cmp (ok_eq hr.units) (sv 7) (sv 9) (nomark _)) (se_one (se_cmp (ok_eq hr.units) (sv 10) (sv 2) (nomark _))))) imp_q31
end
theorem kd_MOVE_TABLES{P:Program}{w:World}{K:PySem.W.Frag}{a:Addr}{t1 t2 t3 t4 t5 t6:Tok}{ep:Nat}(l:K.lookup a=some { cls:=.type "dict",data:=.dict #[{ hash:=PyData.keyHash w.params "step",key:=.str "step" t1,val:=.int 4 t2 },{ hash:=PyData.keyHash w.params "in",key:=.str "in" t3,val:=.int 5 t4 },{ hash:=PyData.keyHash w.params "over",key:=.str "over" t5,val:=.int 7 t6 }] ep }):KDict P w K a (k_MOVE_TABLES.map fun p=>(p.1,V.int p.2)):=by
 have ks:∀ (x:Str) (t:Tok),keyIs (.inr x) (.str x t)=true:=fun x t=>by simp [keyIs,Value.isStrOf]
 refine ⟨_,_,_,[(.inr "step",.int 4 t2),(.inr "in",.int 5 t4),(.inr "over",.int 7 t6)],l,⟨rfl,rfl,rfl⟩,rfl,?_,.cons (ks _ t1) rfl (.cons (ks _ t3) rfl (.cons (ks _ t5) rfl .nil)),(show [(.inr "step":Key),.inr "in",.inr "over"].Nodup by decide +kernel),.cons ⟨rfl,⟨_,rfl⟩⟩ (.cons ⟨rfl,⟨_,rfl⟩⟩ (.cons ⟨rfl,⟨_,rfl⟩⟩ .nil))⟩
 intro e he
 simp only [List.mem_toArray,List.mem_cons,List.not_mem_nil,or_false] at he
 rcases he with rfl | rfl | rfl
 ·exact ⟨.inr "step",ks _ t1,rfl⟩
 ·exact ⟨.inr "in",ks _ t3,rfl⟩
 ·exact ⟨.inr "over",ks _ t5,rfl⟩
theorem len_s{α:Type}{n:Nat}{us:List α}(h:us.length=n + 1):∃ a t,us=a :: t∧t.length=n:=by
 cases us with
 |nil=>cases h
 |cons a t=>exact ⟨a,t,rfl,Nat.succ.inj h⟩
theorem len_z{α:Type}{us:List α}(h:us.length=0):us=[]:=List.length_eq_zero_iff.mp h
theorem ln1{F:FuncData}{ps:List Str}{us:List Value}(h:us.length=1)(k:∀ a,bindArgs F ⟨[a],[]⟩=pure (ps.zip [a])):bindArgs F ⟨us,[]⟩=pure (ps.zip us):=by
 obtain ⟨a,us1,rfl,h1⟩:=len_s h
 cases len_z h1
 exact k a
theorem ln2{F:FuncData}{ps:List Str}{us:List Value}(h:us.length=2)(k:∀ a b,bindArgs F ⟨[a,b],[]⟩=pure (ps.zip [a,b])):bindArgs F ⟨us,[]⟩=pure (ps.zip us):=by
 obtain ⟨a,us1,rfl,h1⟩:=len_s h
 obtain ⟨b,us2,rfl,h2⟩:=len_s h1
 cases len_z h2
 exact k a b
theorem ln3{F:FuncData}{ps:List Str}{us:List Value}(h:us.length=3)(k:∀ a b c,bindArgs F ⟨[a,b,c],[]⟩=pure (ps.zip [a,b,c])):bindArgs F ⟨us,[]⟩=pure (ps.zip us):=by
 obtain ⟨a,us1,rfl,h1⟩:=len_s h
 obtain ⟨b,us2,rfl,h2⟩:=len_s h1
 obtain ⟨c,us3,rfl,h3⟩:=len_s h2
 cases len_z h3
 exact k a b c
theorem ln4{F:FuncData}{ps:List Str}{us:List Value}(h:us.length=4)(k:∀ a b c d,bindArgs F ⟨[a,b,c,d],[]⟩=pure (ps.zip [a,b,c,d])):bindArgs F ⟨us,[]⟩=pure (ps.zip us):=by
 obtain ⟨a,us1,rfl,h1⟩:=len_s h
 obtain ⟨b,us2,rfl,h2⟩:=len_s h1
 obtain ⟨c,us3,rfl,h3⟩:=len_s h2
 obtain ⟨d,us4,rfl,h4⟩:=len_s h3
 cases len_z h4
 exact k a b c d
theorem ln5{F:FuncData}{ps:List Str}{us:List Value}(h:us.length=5)(k:∀ a b c d e,bindArgs F ⟨[a,b,c,d,e],[]⟩=pure (ps.zip [a,b,c,d,e])):bindArgs F ⟨us,[]⟩=pure (ps.zip us):=by
 obtain ⟨a,us1,rfl,h1⟩:=len_s h
 obtain ⟨b,us2,rfl,h2⟩:=len_s h1
 obtain ⟨c,us3,rfl,h3⟩:=len_s h2
 obtain ⟨d,us4,rfl,h4⟩:=len_s h3
 obtain ⟨e,us5,rfl,h5⟩:=len_s h4
 cases len_z h5
 exact k a b c d e
theorem all_mk{l:PySem.W.OpenLaw}{w:World}{K:PySem.W.Frag}{h:Heap}{mg:Str→Option Value}{fa a_q29 a_q22 a_q28 a_q35 a_q27 a_q25 a_q24 a_q23 a_q21 a_q34 a_q26 a_q33 a_q30 a_q20 a_q32 a_q1 a_q11 a_q5 a_q18 a_q7 a_q2 a_q17 a_q4 a_q0 a_q8 a_q15 a_q12 a_q3 a_q9 a_q10 a_q14 a_q13 a_q16 a_q6 a_q19 a_q31:Addr}(X:K.In h)(G:h.Ns mainGlobals mg)(hfa:mg "law" = some (.ref fa))
  {od_q29 an_q29:Option Addr} {sl_q29:Array (Option Value)} {oc_q29 kV_q29 dc_q29 pm_q29 cd_q29 ct_q29:Value}
  {od_q22 an_q22:Option Addr} {sl_q22:Array (Option Value)} {oc_q22 kV_q22 dc_q22 pm_q22 cd_q22 ct_q22:Value}
  {od_q28 an_q28:Option Addr} {sl_q28:Array (Option Value)} {oc_q28 kV_q28 dc_q28 pm_q28 cd_q28 ct_q28:Value}
  {od_q35 an_q35:Option Addr} {sl_q35:Array (Option Value)} {oc_q35 kV_q35 dc_q35 pm_q35 cd_q35 ct_q35:Value}
  {od_q27 an_q27:Option Addr} {sl_q27:Array (Option Value)} {oc_q27 kV_q27 dc_q27 pm_q27 cd_q27 ct_q27:Value}
  {od_q25 an_q25:Option Addr} {sl_q25:Array (Option Value)} {oc_q25 kV_q25 dc_q25 pm_q25 cd_q25 ct_q25:Value}
  {od_q24 an_q24:Option Addr} {sl_q24:Array (Option Value)} {oc_q24 kV_q24 dc_q24 pm_q24 cd_q24 ct_q24:Value}
  {od_q23 an_q23:Option Addr} {sl_q23:Array (Option Value)} {oc_q23 kV_q23 dc_q23 pm_q23 cd_q23 ct_q23:Value}
  {od_q21 an_q21:Option Addr} {sl_q21:Array (Option Value)} {oc_q21 kV_q21 dc_q21 pm_q21 cd_q21 ct_q21:Value}
  {od_q34 an_q34:Option Addr} {sl_q34:Array (Option Value)} {oc_q34 kV_q34 dc_q34 pm_q34 cd_q34 ct_q34:Value}
  {od_q26 an_q26:Option Addr} {sl_q26:Array (Option Value)} {oc_q26 kV_q26 dc_q26 pm_q26 cd_q26 ct_q26:Value}
  {od_q33 an_q33:Option Addr} {sl_q33:Array (Option Value)} {oc_q33 kV_q33 dc_q33 pm_q33 cd_q33 ct_q33:Value}
  {od_q30 an_q30:Option Addr} {sl_q30:Array (Option Value)} {oc_q30 kV_q30 dc_q30 pm_q30 cd_q30 ct_q30:Value}
  {od_q20 an_q20:Option Addr} {sl_q20:Array (Option Value)} {oc_q20 kV_q20 dc_q20 pm_q20 cd_q20 ct_q20:Value}
  {od_q32 an_q32:Option Addr} {sl_q32:Array (Option Value)} {oc_q32 kV_q32 dc_q32 pm_q32 cd_q32 ct_q32:Value}
  {od_q1 an_q1:Option Addr} {sl_q1:Array (Option Value)} {oc_q1 kV_q1 dc_q1 pm_q1 cd_q1 ct_q1:Value}
  {od_q11 an_q11:Option Addr} {sl_q11:Array (Option Value)} {oc_q11 kV_q11 dc_q11 pm_q11 cd_q11 ct_q11:Value}
  {od_q5 an_q5:Option Addr} {sl_q5:Array (Option Value)} {oc_q5 kV_q5 dc_q5 pm_q5 cd_q5 ct_q5:Value}
  {od_q18 an_q18:Option Addr} {sl_q18:Array (Option Value)} {oc_q18 kV_q18 dc_q18 pm_q18 cd_q18 ct_q18:Value}
  {od_q7 an_q7:Option Addr} {sl_q7:Array (Option Value)} {oc_q7 kV_q7 dc_q7 pm_q7 cd_q7 ct_q7:Value}
  {od_q2 an_q2:Option Addr} {sl_q2:Array (Option Value)} {oc_q2 kV_q2 dc_q2 pm_q2 cd_q2 ct_q2:Value}
  {od_q17 an_q17:Option Addr} {sl_q17:Array (Option Value)} {oc_q17 kV_q17 dc_q17 pm_q17 cd_q17 ct_q17:Value}
  {od_q4 an_q4:Option Addr} {sl_q4:Array (Option Value)} {oc_q4 kV_q4 dc_q4 pm_q4 cd_q4 ct_q4:Value}
  {od_q0 an_q0:Option Addr} {sl_q0:Array (Option Value)} {oc_q0 kV_q0 dc_q0 pm_q0 cd_q0 ct_q0:Value}
  {od_q8 an_q8:Option Addr} {sl_q8:Array (Option Value)} {oc_q8 kV_q8 dc_q8 pm_q8 cd_q8 ct_q8:Value}
  {od_q15 an_q15:Option Addr} {sl_q15:Array (Option Value)} {oc_q15 kV_q15 dc_q15 pm_q15 cd_q15 ct_q15:Value}
  {od_q12 an_q12:Option Addr} {sl_q12:Array (Option Value)} {oc_q12 kV_q12 dc_q12 pm_q12 cd_q12 ct_q12:Value}
  {od_q3 an_q3:Option Addr} {sl_q3:Array (Option Value)} {oc_q3 kV_q3 dc_q3 pm_q3 cd_q3 ct_q3:Value}
  {od_q9 an_q9:Option Addr} {sl_q9:Array (Option Value)} {oc_q9 kV_q9 dc_q9 pm_q9 cd_q9 ct_q9:Value}
  {od_q10 an_q10:Option Addr} {sl_q10:Array (Option Value)} {oc_q10 kV_q10 dc_q10 pm_q10 cd_q10 ct_q10:Value}
  {od_q14 an_q14:Option Addr} {sl_q14:Array (Option Value)} {oc_q14 kV_q14 dc_q14 pm_q14 cd_q14 ct_q14:Value}
  {od_q13 an_q13:Option Addr} {sl_q13:Array (Option Value)} {oc_q13 kV_q13 dc_q13 pm_q13 cd_q13 ct_q13:Value}
  {od_q16 an_q16:Option Addr} {sl_q16:Array (Option Value)} {oc_q16 kV_q16 dc_q16 pm_q16 cd_q16 ct_q16:Value}
  {od_q6 an_q6:Option Addr} {sl_q6:Array (Option Value)} {oc_q6 kV_q6 dc_q6 pm_q6 cd_q6 ct_q6:Value}
  {od_q19 an_q19:Option Addr} {sl_q19:Array (Option Value)} {oc_q19 kV_q19 dc_q19 pm_q19 cd_q19 ct_q19:Value}
  {od_q31 an_q31:Option Addr} {sl_q31:Array (Option Value)} {oc_q31 kV_q31 dc_q31 pm_q31 cd_q31 ct_q31:Value}
  (e_q29:PySem.W.nsIn K mainGlobals "facts_in" = some (some (.ref a_q29))) (l_q29:K.lookup a_q29=some ⟨oc_q29,od_q29,.func (PySem.W.fnOf "facts_in" "facts_in" (defArgs s_q29) (defBody s_q29) (defScope s_q29) .none kV_q29 dc_q29 pm_q29 an_q29 cd_q29 ct_q29),sl_q29⟩) (c_q29:PySem.W.codeIn K cd_q29 "facts_in" = true) (k_q29:PySem.W.keepIn K (.ref a_q29)=true)
  (e_q22:PySem.W.nsIn K mainGlobals "brings" = some (some (.ref a_q22))) (l_q22:K.lookup a_q22=some ⟨oc_q22,od_q22,.func (PySem.W.fnOf "brings" "brings" (defArgs s_q22) (defBody s_q22) (defScope s_q22) .none kV_q22 dc_q22 pm_q22 an_q22 cd_q22 ct_q22),sl_q22⟩) (c_q22:PySem.W.codeIn K cd_q22 "brings" = true) (k_q22:PySem.W.keepIn K (.ref a_q22)=true)
  (e_q28:PySem.W.nsIn K mainGlobals "exit_of" = some (some (.ref a_q28))) (l_q28:K.lookup a_q28=some ⟨oc_q28,od_q28,.func (PySem.W.fnOf "exit_of" "exit_of" (defArgs s_q28) (defBody s_q28) (defScope s_q28) .none kV_q28 dc_q28 pm_q28 an_q28 cd_q28 ct_q28),sl_q28⟩) (c_q28:PySem.W.codeIn K cd_q28 "exit_of" = true) (k_q28:PySem.W.keepIn K (.ref a_q28)=true)
  (e_q35:PySem.W.nsIn K mainGlobals "start_facts" = some (some (.ref a_q35))) (l_q35:K.lookup a_q35=some ⟨oc_q35,od_q35,.func (PySem.W.fnOf "start_facts" "start_facts" (defArgs s_q35) (defBody s_q35) (defScope s_q35) .none kV_q35 dc_q35 pm_q35 an_q35 cd_q35 ct_q35),sl_q35⟩) (c_q35:PySem.W.codeIn K cd_q35 "start_facts" = true) (k_q35:PySem.W.keepIn K (.ref a_q35)=true)
  (e_q27:PySem.W.nsIn K mainGlobals "edge_taken" = some (some (.ref a_q27))) (l_q27:K.lookup a_q27=some ⟨oc_q27,od_q27,.func (PySem.W.fnOf "edge_taken" "edge_taken" (defArgs s_q27) (defBody s_q27) (defScope s_q27) .none kV_q27 dc_q27 pm_q27 an_q27 cd_q27 ct_q27),sl_q27⟩) (c_q27:PySem.W.codeIn K cd_q27 "edge_taken" = true) (k_q27:PySem.W.keepIn K (.ref a_q27)=true)
  (e_q25:PySem.W.nsIn K mainGlobals "claims" = some (some (.ref a_q25))) (l_q25:K.lookup a_q25=some ⟨oc_q25,od_q25,.func (PySem.W.fnOf "claims" "claims" (defArgs s_q25) (defBody s_q25) (defScope s_q25) .none kV_q25 dc_q25 pm_q25 an_q25 cd_q25 ct_q25),sl_q25⟩) (c_q25:PySem.W.codeIn K cd_q25 "claims" = true) (k_q25:PySem.W.keepIn K (.ref a_q25)=true)
  (e_q24:PySem.W.nsIn K mainGlobals "claim_of" = some (some (.ref a_q24))) (l_q24:K.lookup a_q24=some ⟨oc_q24,od_q24,.func (PySem.W.fnOf "claim_of" "claim_of" (defArgs s_q24) (defBody s_q24) (defScope s_q24) .none kV_q24 dc_q24 pm_q24 an_q24 cd_q24 ct_q24),sl_q24⟩) (c_q24:PySem.W.codeIn K cd_q24 "claim_of" = true) (k_q24:PySem.W.keepIn K (.ref a_q24)=true)
  (e_q23:PySem.W.nsIn K mainGlobals "claim_ahead" = some (some (.ref a_q23))) (l_q23:K.lookup a_q23=some ⟨oc_q23,od_q23,.func (PySem.W.fnOf "claim_ahead" "claim_ahead" (defArgs s_q23) (defBody s_q23) (defScope s_q23) .none kV_q23 dc_q23 pm_q23 an_q23 cd_q23 ct_q23),sl_q23⟩) (c_q23:PySem.W.codeIn K cd_q23 "claim_ahead" = true) (k_q23:PySem.W.keepIn K (.ref a_q23)=true)
  (e_q21:PySem.W.nsIn K mainGlobals "begin_claim" = some (some (.ref a_q21))) (l_q21:K.lookup a_q21=some ⟨oc_q21,od_q21,.func (PySem.W.fnOf "begin_claim" "begin_claim" (defArgs s_q21) (defBody s_q21) (defScope s_q21) .none kV_q21 dc_q21 pm_q21 an_q21 cd_q21 ct_q21),sl_q21⟩) (c_q21:PySem.W.codeIn K cd_q21 "begin_claim" = true) (k_q21:PySem.W.keepIn K (.ref a_q21)=true)
  (e_q34:PySem.W.nsIn K mainGlobals "start_claim" = some (some (.ref a_q34))) (l_q34:K.lookup a_q34=some ⟨oc_q34,od_q34,.func (PySem.W.fnOf "start_claim" "start_claim" (defArgs s_q34) (defBody s_q34) (defScope s_q34) .none kV_q34 dc_q34 pm_q34 an_q34 cd_q34 ct_q34),sl_q34⟩) (c_q34:PySem.W.codeIn K cd_q34 "start_claim" = true) (k_q34:PySem.W.keepIn K (.ref a_q34)=true)
  (e_q26:PySem.W.nsIn K mainGlobals "edge_claim" = some (some (.ref a_q26))) (l_q26:K.lookup a_q26=some ⟨oc_q26,od_q26,.func (PySem.W.fnOf "edge_claim" "edge_claim" (defArgs s_q26) (defBody s_q26) (defScope s_q26) .none kV_q26 dc_q26 pm_q26 an_q26 cd_q26 ct_q26),sl_q26⟩) (c_q26:PySem.W.codeIn K cd_q26 "edge_claim" = true) (k_q26:PySem.W.keepIn K (.ref a_q26)=true)
  (e_q33:PySem.W.nsIn K mainGlobals "short_claim" = some (some (.ref a_q33))) (l_q33:K.lookup a_q33=some ⟨oc_q33,od_q33,.func (PySem.W.fnOf "short_claim" "short_claim" (defArgs s_q33) (defBody s_q33) (defScope s_q33) .none kV_q33 dc_q33 pm_q33 an_q33 cd_q33 ct_q33),sl_q33⟩) (c_q33:PySem.W.codeIn K cd_q33 "short_claim" = true) (k_q33:PySem.W.keepIn K (.ref a_q33)=true)
  (e_q30:PySem.W.nsIn K mainGlobals "in_claim" = some (some (.ref a_q30))) (l_q30:K.lookup a_q30=some ⟨oc_q30,od_q30,.func (PySem.W.fnOf "in_claim" "in_claim" (defArgs s_q30) (defBody s_q30) (defScope s_q30) .none kV_q30 dc_q30 pm_q30 an_q30 cd_q30 ct_q30),sl_q30⟩) (c_q30:PySem.W.codeIn K cd_q30 "in_claim" = true) (k_q30:PySem.W.keepIn K (.ref a_q30)=true)
  (e_q20:PySem.W.nsIn K mainGlobals "along_claim" = some (some (.ref a_q20))) (l_q20:K.lookup a_q20=some ⟨oc_q20,od_q20,.func (PySem.W.fnOf "along_claim" "along_claim" (defArgs s_q20) (defBody s_q20) (defScope s_q20) .none kV_q20 dc_q20 pm_q20 an_q20 cd_q20 ct_q20),sl_q20⟩) (c_q20:PySem.W.codeIn K cd_q20 "along_claim" = true) (k_q20:PySem.W.keepIn K (.ref a_q20)=true)
  (e_q32:PySem.W.nsIn K mainGlobals "move_of" = some (some (.ref a_q32))) (l_q32:K.lookup a_q32=some ⟨oc_q32,od_q32,.func (PySem.W.fnOf "move_of" "move_of" (defArgs s_q32) (defBody s_q32) (defScope s_q32) .none kV_q32 dc_q32 pm_q32 an_q32 cd_q32 ct_q32),sl_q32⟩) (c_q32:PySem.W.codeIn K cd_q32 "move_of" = true) (k_q32:PySem.W.keepIn K (.ref a_q32)=true)
  (e_q1:PySem.W.nsIn K mainGlobals "_law_cell" = some (some (.ref a_q1))) (l_q1:K.lookup a_q1=some ⟨oc_q1,od_q1,.func (PySem.W.fnOf "_law_cell" "_law_cell" (defArgs s_q1) (defBody s_q1) (defScope s_q1) .none kV_q1 dc_q1 pm_q1 an_q1 cd_q1 ct_q1),sl_q1⟩) (c_q1:PySem.W.codeIn K cd_q1 "_law_cell" = true) (k_q1:PySem.W.keepIn K (.ref a_q1)=true)
  (e_q11:PySem.W.nsIn K mainGlobals "_law_next" = some (some (.ref a_q11))) (l_q11:K.lookup a_q11=some ⟨oc_q11,od_q11,.func (PySem.W.fnOf "_law_next" "_law_next" (defArgs s_q11) (defBody s_q11) (defScope s_q11) .none kV_q11 dc_q11 pm_q11 an_q11 cd_q11 ct_q11),sl_q11⟩) (c_q11:PySem.W.codeIn K cd_q11 "_law_next" = true) (k_q11:PySem.W.keepIn K (.ref a_q11)=true)
  (e_q5:PySem.W.nsIn K mainGlobals "_law_cost" = some (some (.ref a_q5))) (l_q5:K.lookup a_q5=some ⟨oc_q5,od_q5,.func (PySem.W.fnOf "_law_cost" "_law_cost" (defArgs s_q5) (defBody s_q5) (defScope s_q5) .none kV_q5 dc_q5 pm_q5 an_q5 cd_q5 ct_q5),sl_q5⟩) (c_q5:PySem.W.codeIn K cd_q5 "_law_cost" = true) (k_q5:PySem.W.keepIn K (.ref a_q5)=true)
  (e_q18:PySem.W.nsIn K mainGlobals "_law_table" = some (some (.ref a_q18))) (l_q18:K.lookup a_q18=some ⟨oc_q18,od_q18,.func (PySem.W.fnOf "_law_table" "_law_table" (defArgs s_q18) (defBody s_q18) (defScope s_q18) .none kV_q18 dc_q18 pm_q18 an_q18 cd_q18 ct_q18),sl_q18⟩) (c_q18:PySem.W.codeIn K cd_q18 "_law_table" = true) (k_q18:PySem.W.keepIn K (.ref a_q18)=true)
  (e_q7:PySem.W.nsIn K mainGlobals "_law_edge" = some (some (.ref a_q7))) (l_q7:K.lookup a_q7=some ⟨oc_q7,od_q7,.func (PySem.W.fnOf "_law_edge" "_law_edge" (defArgs s_q7) (defBody s_q7) (defScope s_q7) .none kV_q7 dc_q7 pm_q7 an_q7 cd_q7 ct_q7),sl_q7⟩) (c_q7:PySem.W.codeIn K cd_q7 "_law_edge" = true) (k_q7:PySem.W.keepIn K (.ref a_q7)=true)
  (e_q2:PySem.W.nsIn K mainGlobals "_law_chart" = some (some (.ref a_q2))) (l_q2:K.lookup a_q2=some ⟨oc_q2,od_q2,.func (PySem.W.fnOf "_law_chart" "_law_chart" (defArgs s_q2) (defBody s_q2) (defScope s_q2) .none kV_q2 dc_q2 pm_q2 an_q2 cd_q2 ct_q2),sl_q2⟩) (c_q2:PySem.W.codeIn K cd_q2 "_law_chart" = true) (k_q2:PySem.W.keepIn K (.ref a_q2)=true)
  (e_q17:PySem.W.nsIn K mainGlobals "_law_start" = some (some (.ref a_q17))) (l_q17:K.lookup a_q17=some ⟨oc_q17,od_q17,.func (PySem.W.fnOf "_law_start" "_law_start" (defArgs s_q17) (defBody s_q17) (defScope s_q17) .none kV_q17 dc_q17 pm_q17 an_q17 cd_q17 ct_q17),sl_q17⟩) (c_q17:PySem.W.codeIn K cd_q17 "_law_start" = true) (k_q17:PySem.W.keepIn K (.ref a_q17)=true)
  (e_q4:PySem.W.nsIn K mainGlobals "_law_copy" = some (some (.ref a_q4))) (l_q4:K.lookup a_q4=some ⟨oc_q4,od_q4,.func (PySem.W.fnOf "_law_copy" "_law_copy" (defArgs s_q4) (defBody s_q4) (defScope s_q4) .none kV_q4 dc_q4 pm_q4 an_q4 cd_q4 ct_q4),sl_q4⟩) (c_q4:PySem.W.codeIn K cd_q4 "_law_copy" = true) (k_q4:PySem.W.keepIn K (.ref a_q4)=true)
  (e_q0:PySem.W.nsIn K mainGlobals "_law_brings" = some (some (.ref a_q0))) (l_q0:K.lookup a_q0=some ⟨oc_q0,od_q0,.func (PySem.W.fnOf "_law_brings" "_law_brings" (defArgs s_q0) (defBody s_q0) (defScope s_q0) .none kV_q0 dc_q0 pm_q0 an_q0 cd_q0 ct_q0),sl_q0⟩) (c_q0:PySem.W.codeIn K cd_q0 "_law_brings" = true) (k_q0:PySem.W.keepIn K (.ref a_q0)=true)
  (e_q8:PySem.W.nsIn K mainGlobals "_law_edge_of" = some (some (.ref a_q8))) (l_q8:K.lookup a_q8=some ⟨oc_q8,od_q8,.func (PySem.W.fnOf "_law_edge_of" "_law_edge_of" (defArgs s_q8) (defBody s_q8) (defScope s_q8) .none kV_q8 dc_q8 pm_q8 an_q8 cd_q8 ct_q8),sl_q8⟩) (c_q8:PySem.W.codeIn K cd_q8 "_law_edge_of" = true) (k_q8:PySem.W.keepIn K (.ref a_q8)=true)
  (e_q15:PySem.W.nsIn K mainGlobals "_law_short" = some (some (.ref a_q15))) (l_q15:K.lookup a_q15=some ⟨oc_q15,od_q15,.func (PySem.W.fnOf "_law_short" "_law_short" (defArgs s_q15) (defBody s_q15) (defScope s_q15) .none kV_q15 dc_q15 pm_q15 an_q15 cd_q15 ct_q15),sl_q15⟩) (c_q15:PySem.W.codeIn K cd_q15 "_law_short" = true) (k_q15:PySem.W.keepIn K (.ref a_q15)=true)
  (e_q12:PySem.W.nsIn K mainGlobals "_law_onward" = some (some (.ref a_q12))) (l_q12:K.lookup a_q12=some ⟨oc_q12,od_q12,.func (PySem.W.fnOf "_law_onward" "_law_onward" (defArgs s_q12) (defBody s_q12) (defScope s_q12) .none kV_q12 dc_q12 pm_q12 an_q12 cd_q12 ct_q12),sl_q12⟩) (c_q12:PySem.W.codeIn K cd_q12 "_law_onward" = true) (k_q12:PySem.W.keepIn K (.ref a_q12)=true)
  (e_q3:PySem.W.nsIn K mainGlobals "_law_claim" = some (some (.ref a_q3))) (l_q3:K.lookup a_q3=some ⟨oc_q3,od_q3,.func (PySem.W.fnOf "_law_claim" "_law_claim" (defArgs s_q3) (defBody s_q3) (defScope s_q3) .none kV_q3 dc_q3 pm_q3 an_q3 cd_q3 ct_q3),sl_q3⟩) (c_q3:PySem.W.codeIn K cd_q3 "_law_claim" = true) (k_q3:PySem.W.keepIn K (.ref a_q3)=true)
  (e_q9:PySem.W.nsIn K mainGlobals "_law_facts" = some (some (.ref a_q9))) (l_q9:K.lookup a_q9=some ⟨oc_q9,od_q9,.func (PySem.W.fnOf "_law_facts" "_law_facts" (defArgs s_q9) (defBody s_q9) (defScope s_q9) .none kV_q9 dc_q9 pm_q9 an_q9 cd_q9 ct_q9),sl_q9⟩) (c_q9:PySem.W.codeIn K cd_q9 "_law_facts" = true) (k_q9:PySem.W.keepIn K (.ref a_q9)=true)
  (e_q10:PySem.W.nsIn K mainGlobals "_law_inner" = some (some (.ref a_q10))) (l_q10:K.lookup a_q10=some ⟨oc_q10,od_q10,.func (PySem.W.fnOf "_law_inner" "_law_inner" (defArgs s_q10) (defBody s_q10) (defScope s_q10) .none kV_q10 dc_q10 pm_q10 an_q10 cd_q10 ct_q10),sl_q10⟩) (c_q10:PySem.W.codeIn K cd_q10 "_law_inner" = true) (k_q10:PySem.W.keepIn K (.ref a_q10)=true)
  (e_q14:PySem.W.nsIn K mainGlobals "_law_rows_from" = some (some (.ref a_q14))) (l_q14:K.lookup a_q14=some ⟨oc_q14,od_q14,.func (PySem.W.fnOf "_law_rows_from" "_law_rows_from" (defArgs s_q14) (defBody s_q14) (defScope s_q14) .none kV_q14 dc_q14 pm_q14 an_q14 cd_q14 ct_q14),sl_q14⟩) (c_q14:PySem.W.codeIn K cd_q14 "_law_rows_from" = true) (k_q14:PySem.W.keepIn K (.ref a_q14)=true)
  (e_q13:PySem.W.nsIn K mainGlobals "_law_paper" = some (some (.ref a_q13))) (l_q13:K.lookup a_q13=some ⟨oc_q13,od_q13,.func (PySem.W.fnOf "_law_paper" "_law_paper" (defArgs s_q13) (defBody s_q13) (defScope s_q13) .none kV_q13 dc_q13 pm_q13 an_q13 cd_q13 ct_q13),sl_q13⟩) (c_q13:PySem.W.codeIn K cd_q13 "_law_paper" = true) (k_q13:PySem.W.keepIn K (.ref a_q13)=true)
  (e_q16:PySem.W.nsIn K mainGlobals "_law_spoilt" = some (some (.ref a_q16))) (l_q16:K.lookup a_q16=some ⟨oc_q16,od_q16,.func (PySem.W.fnOf "_law_spoilt" "_law_spoilt" (defArgs s_q16) (defBody s_q16) (defScope s_q16) .none kV_q16 dc_q16 pm_q16 an_q16 cd_q16 ct_q16),sl_q16⟩) (c_q16:PySem.W.codeIn K cd_q16 "_law_spoilt" = true) (k_q16:PySem.W.keepIn K (.ref a_q16)=true)
  (e_q6:PySem.W.nsIn K mainGlobals "_law_due" = some (some (.ref a_q6))) (l_q6:K.lookup a_q6=some ⟨oc_q6,od_q6,.func (PySem.W.fnOf "_law_due" "_law_due" (defArgs s_q6) (defBody s_q6) (defScope s_q6) .none kV_q6 dc_q6 pm_q6 an_q6 cd_q6 ct_q6),sl_q6⟩) (c_q6:PySem.W.codeIn K cd_q6 "_law_due" = true) (k_q6:PySem.W.keepIn K (.ref a_q6)=true)
  (e_q19:PySem.W.nsIn K mainGlobals "_law_told" = some (some (.ref a_q19))) (l_q19:K.lookup a_q19=some ⟨oc_q19,od_q19,.func (PySem.W.fnOf "_law_told" "_law_told" (defArgs s_q19) (defBody s_q19) (defScope s_q19) .none kV_q19 dc_q19 pm_q19 an_q19 cd_q19 ct_q19),sl_q19⟩) (c_q19:PySem.W.codeIn K cd_q19 "_law_told" = true) (k_q19:PySem.W.keepIn K (.ref a_q19)=true)
  (e_q31:PySem.W.nsIn K mainGlobals "law" = some (some (.ref a_q31))) (l_q31:K.lookup a_q31=some ⟨oc_q31,od_q31,.func (PySem.W.fnOf "law" "law" (defArgs s_q31) (defBody s_q31) (defScope s_q31) .none kV_q31 dc_q31 pm_q31 an_q31 cd_q31 ct_q31),sl_q31⟩) (c_q31:PySem.W.codeIn K cd_q31 "law" = true) (k_q31:PySem.W.keepIn K (.ref a_q31)=true)
  (z_ValueError:PySem.W.nsIn K mainGlobals "ValueError" = some none)
  (z_bool:PySem.W.nsIn K mainGlobals "bool" = some none)
  (z_enumerate:PySem.W.nsIn K mainGlobals "enumerate" = some none)
  (z_int:PySem.W.nsIn K mainGlobals "int" = some none)
  (z_isinstance:PySem.W.nsIn K mainGlobals "isinstance" = some none)
  (z_len:PySem.W.nsIn K mainGlobals "len" = some none)
  (z_list:PySem.W.nsIn K mainGlobals "list" = some none)
  (z_min:PySem.W.nsIn K mainGlobals "min" = some none)
  (z_range:PySem.W.nsIn K mainGlobals "range" = some none)
  (z_sum:PySem.W.nsIn K mainGlobals "sum" = some none)
  (z_tuple:PySem.W.nsIn K mainGlobals "tuple" = some none)
  {da_MOVE_TABLES:Addr} {t1 t2 t3 t4 t5 t6:Tok} {ep:Nat} (y_MOVE_TABLES:PySem.W.nsIn K mainGlobals "MOVE_TABLES" = some (some (.ref da_MOVE_TABLES))) (d_MOVE_TABLES:K.lookup da_MOVE_TABLES=some { cls:=.type "dict",data:=.dict #[{ hash:=PyData.keyHash w.params "step",key:=.str "step" t1,val:=.int 4 t2 },{ hash:=PyData.keyHash w.params "in",key:=.str "in" t3,val:=.int 5 t4 },{ hash:=PyData.keyHash w.params "over",key:=.str "over" t5,val:=.int 7 t6 }] ep })
  {C_NoPaper:Addr} (e_NoPaper:PySem.W.nsIn K mainGlobals "NoPaper" = some (some (.ref C_NoPaper)))
  {C_CallError:Addr} (e_CallError:PySem.W.nsIn K mainGlobals "CallError" = some (some (.ref C_CallError)))
  {C_NoChart:Addr} (e_NoChart:PySem.W.nsIn K mainGlobals "NoChart" = some (some (.ref C_NoChart)))
  {C_NoName:Addr} (e_NoName:PySem.W.nsIn K mainGlobals "NoName" = some (some (.ref C_NoName)))
  {C_NoTable:Addr} (e_NoTable:PySem.W.nsIn K mainGlobals "NoTable" = some (some (.ref C_NoTable)))
  {C_NoText:Addr} (e_NoText:PySem.W.nsIn K mainGlobals "NoText" = some (some (.ref C_NoText)))
  {C_NoWay:Addr} (e_NoWay:PySem.W.nsIn K mainGlobals "NoWay" = some (some (.ref C_NoWay)))
  {C_TooLong:Addr} (e_TooLong:PySem.W.nsIn K mainGlobals "TooLong" = some (some (.ref C_TooLong)))
  {xnm xq:Str} {xN xf:Addr} {xbs xbm xsub:List Value} {xsn:List Str} {xab:Bool} {xcol:Option Bool} {xdd:Option Addr} {x0 x1 x2 x3 x5:Option Value}
  (l_NoPaper:K.lookup C_NoPaper=some (excClassObj xnm xq C_NoPaper xN xbs xbm true xsn xsub xab xcol xdd x0 x1 x2 x3 x5 "ValueError.__new__")) (t_NoPaper:PySem.W.tailIn K bmV xbm=true) (o_NoPaper:PySem.W.nsOkIn K xN=true) (i_NoPaper:PySem.W.nsIn K xN "__init__" = some (some (.ref xf)))
  {od_i an_i:Option Addr} {sl_i:Array (Option Value)} {kV_i dc_i pm_i cd_i ct_i:Value}
  (l_i:K.lookup xf=some ⟨.type "function",od_i,.func (PySem.W.fnOf "__init__" "NoPaper.__init__" (defArgs s_NoPaper__init__) (defBody s_NoPaper__init__) (defScope s_NoPaper__init__) .none kV_i dc_i pm_i an_i cd_i ct_i),sl_i⟩) (c_i:PySem.W.codeIn K cd_i "NoPaper.__init__" = true) (k_i:PySem.W.keepIn K (.ref xf)=true)
  (sa_NoPaper:PySem.W.findIn K (.ref C_NoPaper) "__setattr__" = some (some (.builtin "object.__setattr__"))) (ga_NoPaper:PySem.W.findIn K (.ref C_NoPaper) "__getattribute__" = some (some (.builtin "BaseException.__getattribute__"))) (gg_NoPaper:PySem.W.findIn K (.ref C_NoPaper) "__getattr__" = some none) (cl_NoPaper:PySem.W.findIn K (.ref C_NoPaper) "__class__" = some (some (.builtin "object.__class__"))) (cg_NoPaper:PySem.W.specialIn K (.builtin "object.__class__") "__get__" = some (some (.builtin "getset_descriptor.__get__"))) (ct_NoPaper:PySem.W.takesIn K (.builtin "object.__class__")=some true) (mo_NoPaper:PySem.W.mroIn K C_NoPaper (.type "object")=some true)
  (n_row:PySem.W.findIn K (.ref C_NoPaper) "row" = some none)
  (rd_CallError:PySem.W.readsIn K C_CallError (.type "type")=true) (fc_CallError:PySem.W.findCls K (.ref C_CallError) (.type "type") "__init__" = some (.val (.builtin "ValueError.__init__"))) (sp_CallError:PySem.W.specialIn K (.ref C_CallError) "__getattribute__" = some (some (.builtin "type.__getattribute__")))
  (m_CallError:PySem.W.exmOne K (.ref C_NoPaper) (.ref C_CallError)=some true)
  (q_NoChart:PySem.W.kitOne K (.ref C_NoPaper) (.ref C_NoChart)=some false)
  (q_NoName:PySem.W.kitOne K (.ref C_NoPaper) (.ref C_NoName)=some false)
  (q_NoPaper:PySem.W.kitOne K (.ref C_NoPaper) (.ref C_NoPaper)=some true)
  (q_NoTable:PySem.W.kitOne K (.ref C_NoPaper) (.ref C_NoTable)=some false)
  (q_NoText:PySem.W.kitOne K (.ref C_NoPaper) (.ref C_NoText)=some false)
  (q_NoWay:PySem.W.kitOne K (.ref C_NoPaper) (.ref C_NoWay)=some false)
  (q_TooLong:PySem.W.kitOne K (.ref C_NoPaper) (.ref C_TooLong)=some false)
  (q_ValueError:PySem.W.kitOne K (.ref C_NoPaper) (.type "ValueError")=some true)
  : ∃ fd:FuncData,(∀ (s:Shared) (v:Value),BindsTo s fd ⟨[v],[]⟩ [("_law_script",v)])∧∀ base:Heap,K.In base→base.Ns mainGlobals mg→FnOk l.prog w K mg base CX0 8 fa fd ["_law_script"] (spD K 1 S_q31):=by
 have e:=hfa.symm.trans (PySem.W.mg_of X G e_q31)
 cases e
 have XC:XCls K C_NoPaper xf:=⟨⟨_,_,_,_,_,_,_,_,_,_,_,_,_,_,_,l_NoPaper,t_NoPaper,o_NoPaper,i_NoPaper⟩,⟨_,l_i,rfl⟩,sa_NoPaper,ga_NoPaper,gg_NoPaper,cl_NoPaper,cg_NoPaper,ct_NoPaper,mo_NoPaper⟩
 have T:Txt l.prog w K mg:=⟨PySem.W.mg_none_of X G z_ValueError,PySem.W.mg_none_of X G z_bool,PySem.W.mg_none_of X G z_enumerate,PySem.W.mg_none_of X G z_int,PySem.W.mg_none_of X G z_isinstance,PySem.W.mg_none_of X G z_len,PySem.W.mg_none_of X G z_list,PySem.W.mg_none_of X G z_min,PySem.W.mg_none_of X G z_range,PySem.W.mg_none_of X G z_sum,PySem.W.mg_none_of X G z_tuple,⟨_,PySem.W.mg_of X G y_MOVE_TABLES,kd_MOVE_TABLES d_MOVE_TABLES⟩,⟨_,PySem.W.mg_of X G e_CallError,fun C h=>by rw [e_NoPaper] at h;cases h;exact m_CallError⟩,⟨_,e_NoPaper,XC.is⟩,⟨_,PySem.W.mg_of X G e_NoChart,⟨_,e_NoPaper,q_NoChart⟩⟩,⟨_,PySem.W.mg_of X G e_NoName,⟨_,e_NoPaper,q_NoName⟩⟩,⟨_,PySem.W.mg_of X G e_NoPaper,⟨_,e_NoPaper,q_NoPaper⟩⟩,⟨_,PySem.W.mg_of X G e_NoTable,⟨_,e_NoPaper,q_NoTable⟩⟩,⟨_,PySem.W.mg_of X G e_NoText,⟨_,e_NoPaper,q_NoText⟩⟩,⟨_,PySem.W.mg_of X G e_NoWay,⟨_,e_NoPaper,q_NoWay⟩⟩,⟨_,PySem.W.mg_of X G e_TooLong,⟨_,e_NoPaper,q_TooLong⟩⟩,⟨_,e_NoPaper,q_ValueError⟩,⟨_,_,e_NoPaper,XC,n_row⟩⟩
 have F_q29:=fun_mk (st:=s_q29) l_q29 c_q29 k_q29
 have F_q22:=fun_mk (st:=s_q22) l_q22 c_q22 k_q22
 have F_q28:=fun_mk (st:=s_q28) l_q28 c_q28 k_q28
 have F_q35:=fun_mk (st:=s_q35) l_q35 c_q35 k_q35
 have F_q27:=fun_mk (st:=s_q27) l_q27 c_q27 k_q27
 have F_q25:=fun_mk (st:=s_q25) l_q25 c_q25 k_q25
 have F_q24:=fun_mk (st:=s_q24) l_q24 c_q24 k_q24
 have F_q23:=fun_mk (st:=s_q23) l_q23 c_q23 k_q23
 have F_q21:=fun_mk (st:=s_q21) l_q21 c_q21 k_q21
 have F_q34:=fun_mk (st:=s_q34) l_q34 c_q34 k_q34
 have F_q26:=fun_mk (st:=s_q26) l_q26 c_q26 k_q26
 have F_q33:=fun_mk (st:=s_q33) l_q33 c_q33 k_q33
 have F_q30:=fun_mk (st:=s_q30) l_q30 c_q30 k_q30
 have F_q20:=fun_mk (st:=s_q20) l_q20 c_q20 k_q20
 have F_q32:=fun_mk (st:=s_q32) l_q32 c_q32 k_q32
 have F_q1:=fun_mk (st:=s_q1) l_q1 c_q1 k_q1
 have F_q11:=fun_mk (st:=s_q11) l_q11 c_q11 k_q11
 have F_q5:=fun_mk (st:=s_q5) l_q5 c_q5 k_q5
 have F_q18:=fun_mk (st:=s_q18) l_q18 c_q18 k_q18
 have F_q7:=fun_mk (st:=s_q7) l_q7 c_q7 k_q7
 have F_q2:=fun_mk (st:=s_q2) l_q2 c_q2 k_q2
 have F_q17:=fun_mk (st:=s_q17) l_q17 c_q17 k_q17
 have F_q4:=fun_mk (st:=s_q4) l_q4 c_q4 k_q4
 have F_q0:=fun_mk (st:=s_q0) l_q0 c_q0 k_q0
 have F_q8:=fun_mk (st:=s_q8) l_q8 c_q8 k_q8
 have F_q15:=fun_mk (st:=s_q15) l_q15 c_q15 k_q15
 have F_q12:=fun_mk (st:=s_q12) l_q12 c_q12 k_q12
 have F_q3:=fun_mk (st:=s_q3) l_q3 c_q3 k_q3
 have F_q9:=fun_mk (st:=s_q9) l_q9 c_q9 k_q9
 have F_q10:=fun_mk (st:=s_q10) l_q10 c_q10 k_q10
 have F_q14:=fun_mk (st:=s_q14) l_q14 c_q14 k_q14
 have F_q13:=fun_mk (st:=s_q13) l_q13 c_q13 k_q13
 have F_q16:=fun_mk (st:=s_q16) l_q16 c_q16 k_q16
 have F_q6:=fun_mk (st:=s_q6) l_q6 c_q6 k_q6
 have F_q19:=fun_mk (st:=s_q19) l_q19 c_q19 k_q19
 have F_q31:=fun_mk (st:=s_q31) l_q31 c_q31 k_q31
 have b_q29:Binds K (PySem.W.fnOf "facts_in" "facts_in" (defArgs s_q29) (defBody s_q29) (defScope s_q29) .none kV_q29 dc_q29 pm_q29 an_q29 cd_q29 ct_q29) ["mask"] []:=.all fun us hl=>ln1 hl fun _=>rfl
 have b_q22:Binds K (PySem.W.fnOf "brings" "brings" (defArgs s_q22) (defBody s_q22) (defScope s_q22) .none kV_q22 dc_q22 pm_q22 an_q22 cd_q22 ct_q22) ["table","d","e"] []:=.all fun us hl=>ln3 hl fun _ _ _=>rfl
 have b_q28:Binds K (PySem.W.fnOf "exit_of" "exit_of" (defArgs s_q28) (defBody s_q28) (defScope s_q28) .none kV_q28 dc_q28 pm_q28 an_q28 cd_q28 ct_q28) ["chart","f"] []:=.all fun us hl=>ln2 hl fun _ _=>rfl
 have b_q35:Binds K (PySem.W.fnOf "start_facts" "start_facts" (defArgs s_q35) (defBody s_q35) (defScope s_q35) .none kV_q35 dc_q35 pm_q35 an_q35 cd_q35 ct_q35) ["chart","start"] []:=.all fun us hl=>ln2 hl fun _ _=>rfl
 have b_q27:Binds K (PySem.W.fnOf "edge_taken" "edge_taken" (defArgs s_q27) (defBody s_q27) (defScope s_q27) .none kV_q27 dc_q27 pm_q27 an_q27 cd_q27 ct_q27) ["chart","here","move"] []:=.all fun us hl=>ln3 hl fun _ _ _=>rfl
 have b_q25:Binds K (PySem.W.fnOf "claims" "claims" (defArgs s_q25) (defBody s_q25) (defScope s_q25) .none kV_q25 dc_q25 pm_q25 an_q25 cd_q25 ct_q25) ["chart","start","rows"] []:=.all fun us hl=>ln3 hl fun _ _ _=>rfl
 have b_q24:Binds K (PySem.W.fnOf "claim_of" "claim_of" (defArgs s_q24) (defBody s_q24) (defScope s_q24) .none kV_q24 dc_q24 pm_q24 an_q24 cd_q24 ct_q24) ["chart","start","ahead","row"] []:=.all fun us hl=>ln4 hl fun _ _ _ _=>rfl
 have b_q23:Binds K (PySem.W.fnOf "claim_ahead" "claim_ahead" (defArgs s_q23) (defBody s_q23) (defScope s_q23) .none kV_q23 dc_q23 pm_q23 an_q23 cd_q23 ct_q23) ["ahead","k","sort"] []:=.all fun us hl=>ln3 hl fun _ _ _=>rfl
 have b_q21:Binds K (PySem.W.fnOf "begin_claim" "begin_claim" (defArgs s_q21) (defBody s_q21) (defScope s_q21) .none kV_q21 dc_q21 pm_q21 an_q21 cd_q21 ct_q21) ["chart","row"] []:=.all fun us hl=>ln2 hl fun _ _=>rfl
 have b_q34:Binds K (PySem.W.fnOf "start_claim" "start_claim" (defArgs s_q34) (defBody s_q34) (defScope s_q34) .none kV_q34 dc_q34 pm_q34 an_q34 cd_q34 ct_q34) ["chart","start","row"] []:=.all fun us hl=>ln3 hl fun _ _ _=>rfl
 have b_q26:Binds K (PySem.W.fnOf "edge_claim" "edge_claim" (defArgs s_q26) (defBody s_q26) (defScope s_q26) .none kV_q26 dc_q26 pm_q26 an_q26 cd_q26 ct_q26) ["chart","ahead","row"] []:=.all fun us hl=>ln3 hl fun _ _ _=>rfl
 have b_q33:Binds K (PySem.W.fnOf "short_claim" "short_claim" (defArgs s_q33) (defBody s_q33) (defScope s_q33) .none kV_q33 dc_q33 pm_q33 an_q33 cd_q33 ct_q33) ["chart","ahead","row"] []:=.all fun us hl=>ln3 hl fun _ _ _=>rfl
 have b_q30:Binds K (PySem.W.fnOf "in_claim" "in_claim" (defArgs s_q30) (defBody s_q30) (defScope s_q30) .none kV_q30 dc_q30 pm_q30 an_q30 cd_q30 ct_q30) ["chart","ahead","row"] []:=.all fun us hl=>ln3 hl fun _ _ _=>rfl
 have b_q20:Binds K (PySem.W.fnOf "along_claim" "along_claim" (defArgs s_q20) (defBody s_q20) (defScope s_q20) .none kV_q20 dc_q20 pm_q20 an_q20 cd_q20 ct_q20) ["ahead","row"] []:=.all fun us hl=>ln2 hl fun _ _=>rfl
 have b_q32:Binds K (PySem.W.fnOf "move_of" "move_of" (defArgs s_q32) (defBody s_q32) (defScope s_q32) .none kV_q32 dc_q32 pm_q32 an_q32 cd_q32 ct_q32) ["row"] []:=.all fun us hl=>ln1 hl fun _=>rfl
 have b_q1:Binds K (PySem.W.fnOf "_law_cell" "_law_cell" (defArgs s_q1) (defBody s_q1) (defScope s_q1) .none kV_q1 dc_q1 pm_q1 an_q1 cd_q1 ct_q1) ["_law_script","_law_k"] []:=.all fun us hl=>ln2 hl fun _ _=>rfl
 have b_q11:Binds K (PySem.W.fnOf "_law_next" "_law_next" (defArgs s_q11) (defBody s_q11) (defScope s_q11) .none kV_q11 dc_q11 pm_q11 an_q11 cd_q11 ct_q11) ["_law_state","_law_many"] []:=.all fun us hl=>ln2 hl fun _ _=>rfl
 have b_q5:Binds K (PySem.W.fnOf "_law_cost" "_law_cost" (defArgs s_q5) (defBody s_q5) (defScope s_q5) .none kV_q5 dc_q5 pm_q5 an_q5 cd_q5 ct_q5) ["_law_state"] []:=.all fun us hl=>ln1 hl fun _=>rfl
 have b_q18:Binds K (PySem.W.fnOf "_law_table" "_law_table" (defArgs s_q18) (defBody s_q18) (defScope s_q18) .none kV_q18 dc_q18 pm_q18 an_q18 cd_q18 ct_q18) ["_law_state","_law_many","_law_facts_here"] []:=.all fun us hl=>ln3 hl fun _ _ _=>rfl
 have b_q7:Binds K (PySem.W.fnOf "_law_edge" "_law_edge" (defArgs s_q7) (defBody s_q7) (defScope s_q7) .none kV_q7 dc_q7 pm_q7 an_q7 cd_q7 ct_q7) ["_law_cell_here","_law_heads","_law_f","_law_most"] []:=.all fun us hl=>ln4 hl fun _ _ _ _=>rfl
 have b_q2:Binds K (PySem.W.fnOf "_law_chart" "_law_chart" (defArgs s_q2) (defBody s_q2) (defScope s_q2) .none kV_q2 dc_q2 pm_q2 an_q2 cd_q2 ct_q2) ["_law_script","_law_at","_law_many","_law_wide","_law_deep"] []:=.all fun us hl=>ln5 hl fun _ _ _ _ _=>rfl
 have b_q17:Binds K (PySem.W.fnOf "_law_start" "_law_start" (defArgs s_q17) (defBody s_q17) (defScope s_q17) .none kV_q17 dc_q17 pm_q17 an_q17 cd_q17 ct_q17) ["_law_script","_law_chart_here"] []:=.all fun us hl=>ln2 hl fun _ _=>rfl
 have b_q4:Binds K (PySem.W.fnOf "_law_copy" "_law_copy" (defArgs s_q4) (defBody s_q4) (defScope s_q4) .none kV_q4 dc_q4 pm_q4 an_q4 cd_q4 ct_q4) ["_law_chart_here"] []:=.all fun us hl=>ln1 hl fun _=>rfl
 have b_q0:Binds K (PySem.W.fnOf "_law_brings" "_law_brings" (defArgs s_q0) (defBody s_q0) (defScope s_q0) .none kV_q0 dc_q0 pm_q0 an_q0 cd_q0 ct_q0) ["_law_table_here","_law_one","_law_other"] []:=.all fun us hl=>ln3 hl fun _ _ _=>rfl
 have b_q8:Binds K (PySem.W.fnOf "_law_edge_of" "_law_edge_of" (defArgs s_q8) (defBody s_q8) (defScope s_q8) .none kV_q8 dc_q8 pm_q8 an_q8 cd_q8 ct_q8) ["_law_chart_here","_law_f","_law_n","_law_sort","_law_p"] []:=.all fun us hl=>ln5 hl fun _ _ _ _ _=>rfl
 have b_q15:Binds K (PySem.W.fnOf "_law_short" "_law_short" (defArgs s_q15) (defBody s_q15) (defScope s_q15) .none kV_q15 dc_q15 pm_q15 an_q15 cd_q15 ct_q15) ["_law_chart_here","_law_one","_law_n","_law_other","_law_e"] []:=.all fun us hl=>ln5 hl fun _ _ _ _ _=>rfl
 have b_q12:Binds K (PySem.W.fnOf "_law_onward" "_law_onward" (defArgs s_q12) (defBody s_q12) (defScope s_q12) .none kV_q12 dc_q12 pm_q12 an_q12 cd_q12 ct_q12) ["_law_chart_here","_law_one","_law_sort","_law_n","_law_e"] []:=.all fun us hl=>ln5 hl fun _ _ _ _ _=>rfl
 have b_q3:Binds K (PySem.W.fnOf "_law_claim" "_law_claim" (defArgs s_q3) (defBody s_q3) (defScope s_q3) .none kV_q3 dc_q3 pm_q3 an_q3 cd_q3 ct_q3) ["_law_chart_here","_law_start_here","_law_done","_law_row"] []:=.all fun us hl=>ln4 hl fun _ _ _ _=>rfl
 have b_q9:Binds K (PySem.W.fnOf "_law_facts" "_law_facts" (defArgs s_q9) (defBody s_q9) (defScope s_q9) .none kV_q9 dc_q9 pm_q9 an_q9 cd_q9 ct_q9) ["_law_mask"] []:=.all fun us hl=>ln1 hl fun _=>rfl
 have b_q10:Binds K (PySem.W.fnOf "_law_inner" "_law_inner" (defArgs s_q10) (defBody s_q10) (defScope s_q10) .none kV_q10 dc_q10 pm_q10 an_q10 cd_q10 ct_q10) ["_law_chart_here","_law_done","_law_edge_here","_law_d"] []:=.all fun us hl=>ln4 hl fun _ _ _ _=>rfl
 have b_q14:Binds K (PySem.W.fnOf "_law_rows_from" "_law_rows_from" (defArgs s_q14) (defBody s_q14) (defScope s_q14) .none kV_q14 dc_q14 pm_q14 an_q14 cd_q14 ct_q14) ["_law_chart_here","_law_done","_law_k"] []:=.all fun us hl=>ln3 hl fun _ _ _=>rfl
 have b_q13:Binds K (PySem.W.fnOf "_law_paper" "_law_paper" (defArgs s_q13) (defBody s_q13) (defScope s_q13) .none kV_q13 dc_q13 pm_q13 an_q13 cd_q13 ct_q13) ["_law_chart_here","_law_start_here","_law_cells"] []:=.all fun us hl=>ln3 hl fun _ _ _=>rfl
 have b_q16:Binds K (PySem.W.fnOf "_law_spoilt" "_law_spoilt" (defArgs s_q16) (defBody s_q16) (defScope s_q16) .none kV_q16 dc_q16 pm_q16 an_q16 cd_q16 ct_q16) ["_law_rows","_law_state"] []:=.all fun us hl=>ln2 hl fun _ _=>rfl
 have b_q6:Binds K (PySem.W.fnOf "_law_due" "_law_due" (defArgs s_q6) (defBody s_q6) (defScope s_q6) .none kV_q6 dc_q6 pm_q6 an_q6 cd_q6 ct_q6) ["_law_chart_here","_law_start_here","_law_rows"] []:=.all fun us hl=>ln3 hl fun _ _ _=>rfl
 have b_q19:Binds K (PySem.W.fnOf "_law_told" "_law_told" (defArgs s_q19) (defBody s_q19) (defScope s_q19) .none kV_q19 dc_q19 pm_q19 an_q19 cd_q19 ct_q19) ["_law_chart_here","_law_start_here","_law_rows"] []:=.all fun us hl=>ln3 hl fun _ _ _=>rfl
 refine ⟨PySem.W.fnOf "law" "law" (defArgs s_q31) (defBody s_q31) (defScope s_q31) .none kV_q31 dc_q31 pm_q31 an_q31 cd_q31 ct_q31,fun s v=>.of_eq rfl,fun base _ _=>?_⟩
 have F_i:=fun_mk (st:=s_NoPaper__init__) l_i c_i k_i
 have b_i:Binds K (PySem.W.fnOf "__init__" "NoPaper.__init__" (defArgs s_NoPaper__init__) (defBody s_NoPaper__init__) (defScope s_NoPaper__init__) .none kV_i dc_i pm_i an_i cd_i ct_i) ["self","row"] []:=.all fun us hl=>ln2 hl fun _ _=>rfl
 have R_NoPaper:RaiseX l.prog w K mg base 1 "NoPaper" ["self","row"] ["row"]:=⟨_,_,_,PySem.W.mg_of X G e_NoPaper,e_NoPaper,XC,ok_NoPaper__init__ F_i (PySem.W.mg_of X G e_CallError) ⟨rd_CallError,fc_CallError,sp_CallError⟩ XC n_row,b_i⟩
 have C_q29:Cal l.prog w K mg base 1 "facts_in" ["mask"] (spD K 1 S_q29):=⟨a_q29,_,ok_q29 F_q29 T ,PySem.W.mg_of X G e_q29,k_q29,b_q29⟩
 have C_q28:Cal l.prog w K mg base 1 "exit_of" ["chart","f"] (spD K 2 S_q28):=⟨a_q28,_,ok_q28 F_q28 T ,PySem.W.mg_of X G e_q28,k_q28,b_q28⟩
 have C_q35:Cal l.prog w K mg base 1 "start_facts" ["chart","start"] (spD K 2 S_q35):=⟨a_q35,_,ok_q35 F_q35 T ,PySem.W.mg_of X G e_q35,k_q35,b_q35⟩
 have C_q23:Cal l.prog w K mg base 1 "claim_ahead" ["ahead","k","sort"] (spD K 3 S_q23):=⟨a_q23,_,ok_q23 F_q23 T ,PySem.W.mg_of X G e_q23,k_q23,b_q23⟩
 have C_q21:Cal l.prog w K mg base 1 "begin_claim" ["chart","row"] (spD K 2 S_q21):=⟨a_q21,_,ok_q21 F_q21 T ,PySem.W.mg_of X G e_q21,k_q21,b_q21⟩
 have C_q32:Cal l.prog w K mg base 1 "move_of" ["row"] (spD K 1 S_q32):=⟨a_q32,_,ok_q32 F_q32 T ,PySem.W.mg_of X G e_q32,k_q32,b_q32⟩
 have C_q1:Cal l.prog w K mg base 1 "_law_cell" ["_law_script","_law_k"] (spD K 2 S_q1):=⟨a_q1,_,ok_q1 F_q1 T ,PySem.W.mg_of X G e_q1,k_q1,b_q1⟩
 have C_q11:Cal l.prog w K mg base 1 "_law_next" ["_law_state","_law_many"] (spD K 2 S_q11):=⟨a_q11,_,ok_q11 F_q11 T ,PySem.W.mg_of X G e_q11,k_q11,b_q11⟩
 have C_q4:Cal l.prog w K mg base 1 "_law_copy" ["_law_chart_here"] (spD K 1 S_q4):=⟨a_q4,_,ok_q4 F_q4 T ,PySem.W.mg_of X G e_q4,k_q4,b_q4⟩
 have C_q0:Cal l.prog w K mg base 1 "_law_brings" ["_law_table_here","_law_one","_law_other"] (spD K 3 S_q0):=⟨a_q0,_,ok_q0 F_q0 T ,PySem.W.mg_of X G e_q0,k_q0,b_q0⟩
 have C_q8:Cal l.prog w K mg base 1 "_law_edge_of" ["_law_chart_here","_law_f","_law_n","_law_sort","_law_p"] (spD K 5 S_q8):=⟨a_q8,_,ok_q8 F_q8 T ,PySem.W.mg_of X G e_q8,k_q8,b_q8⟩
 have C_q9:Cal l.prog w K mg base 1 "_law_facts" ["_law_mask"] (spD K 1 S_q9):=⟨a_q9,_,ok_q9 F_q9 T ,PySem.W.mg_of X G e_q9,k_q9,b_q9⟩
 have C_q22:Cal l.prog w K mg base 2 "brings" ["table","d","e"] (spD K 3 S_q22):=⟨a_q22,_,ok_q22 F_q22 T C_q29,PySem.W.mg_of X G e_q22,k_q22,b_q22⟩
 have C_q34:Cal l.prog w K mg base 2 "start_claim" ["chart","start","row"] (spD K 3 S_q34):=⟨a_q34,_,ok_q34 F_q34 T C_q35,PySem.W.mg_of X G e_q34,k_q34,b_q34⟩
 have C_q20:Cal l.prog w K mg base 2 "along_claim" ["ahead","row"] (spD K 2 S_q20):=⟨a_q20,_,ok_q20 F_q20 T C_q23,PySem.W.mg_of X G e_q20,k_q20,b_q20⟩
 have C_q5:Cal l.prog w K mg base 2 "_law_cost" ["_law_state"] (spD K 1 S_q5):=⟨a_q5,_,ok_q5 F_q5 T C_q11,PySem.W.mg_of X G e_q5,k_q5,b_q5⟩
 have C_q18:Cal l.prog w K mg base 2 "_law_table" ["_law_state","_law_many","_law_facts_here"] (spD K 3 S_q18):=⟨a_q18,_,ok_q18 F_q18 T C_q11,PySem.W.mg_of X G e_q18,k_q18,b_q18⟩
 have C_q17:Cal l.prog w K mg base 2 "_law_start" ["_law_script","_law_chart_here"] (spD K 2 S_q17):=⟨a_q17,_,ok_q17 F_q17 T C_q1,PySem.W.mg_of X G e_q17,k_q17,b_q17⟩
 have C_q15:Cal l.prog w K mg base 2 "_law_short" ["_law_chart_here","_law_one","_law_n","_law_other","_law_e"] (spD K 5 S_q15):=⟨a_q15,_,ok_q15 F_q15 T C_q8 C_q0,PySem.W.mg_of X G e_q15,k_q15,b_q15⟩
 have C_q12:Cal l.prog w K mg base 2 "_law_onward" ["_law_chart_here","_law_one","_law_sort","_law_n","_law_e"] (spD K 5 S_q12):=⟨a_q12,_,ok_q12 F_q12 T C_q8 C_q0,PySem.W.mg_of X G e_q12,k_q12,b_q12⟩
 have C_q10:Cal l.prog w K mg base 2 "_law_inner" ["_law_chart_here","_law_done","_law_edge_here","_law_d"] (spD K 4 S_q10):=⟨a_q10,_,ok_q10 F_q10 T C_q9,PySem.W.mg_of X G e_q10,k_q10,b_q10⟩
 have C_q16:Cal l.prog w K mg base 2 "_law_spoilt" ["_law_rows","_law_state"] (spD K 2 S_q16):=⟨a_q16,_,ok_q16 F_q16 T C_q11,PySem.W.mg_of X G e_q16,k_q16,b_q16⟩
 have C_q27:Cal l.prog w K mg base 3 "edge_taken" ["chart","here","move"] (spD K 3 S_q27):=⟨a_q27,_,ok_q27 F_q27 T C_q22,PySem.W.mg_of X G e_q27,k_q27,b_q27⟩
 have C_q7:Cal l.prog w K mg base 3 "_law_edge" ["_law_cell_here","_law_heads","_law_f","_law_most"] (spD K 4 S_q7):=⟨a_q7,_,ok_q7 F_q7 T C_q11 C_q5 C_q18,PySem.W.mg_of X G e_q7,k_q7,b_q7⟩
 have C_q3:Cal l.prog w K mg base 3 "_law_claim" ["_law_chart_here","_law_start_here","_law_done","_law_row"] (spD K 4 S_q3):=⟨a_q3,_,ok_q3 F_q3 T C_q12 C_q15,PySem.W.mg_of X G e_q3,k_q3,b_q3⟩
 have C_q14:Cal l.prog w K mg base 3 "_law_rows_from" ["_law_chart_here","_law_done","_law_k"] (spD K 3 S_q14):=⟨a_q14,_,ok_q14 F_q14 T C_q9 C_q10,PySem.W.mg_of X G e_q14,k_q14,b_q14⟩
 have C_q26:Cal l.prog w K mg base 4 "edge_claim" ["chart","ahead","row"] (spD K 3 S_q26):=⟨a_q26,_,ok_q26 F_q26 T C_q23 C_q32 C_q27,PySem.W.mg_of X G e_q26,k_q26,b_q26⟩
 have C_q33:Cal l.prog w K mg base 4 "short_claim" ["chart","ahead","row"] (spD K 3 S_q33):=⟨a_q33,_,ok_q33 F_q33 T C_q23 C_q27 C_q28 C_q22,PySem.W.mg_of X G e_q33,k_q33,b_q33⟩
 have C_q30:Cal l.prog w K mg base 4 "in_claim" ["chart","ahead","row"] (spD K 3 S_q30):=⟨a_q30,_,ok_q30 F_q30 T C_q23 C_q32 C_q27,PySem.W.mg_of X G e_q30,k_q30,b_q30⟩
 have C_q2:Cal l.prog w K mg base 4 "_law_chart" ["_law_script","_law_at","_law_many","_law_wide","_law_deep"] (spD K 5 S_q2):=⟨a_q2,_,ok_q2 F_q2 T C_q1 C_q7,PySem.W.mg_of X G e_q2,k_q2,b_q2⟩
 have C_q13:Cal l.prog w K mg base 4 "_law_paper" ["_law_chart_here","_law_start_here","_law_cells"] (spD K 3 S_q13):=⟨a_q13,_,ok_q13 F_q13 T C_q9 C_q3 C_q11 C_q14,PySem.W.mg_of X G e_q13,k_q13,b_q13⟩
 have C_q6:Cal l.prog w K mg base 4 "_law_due" ["_law_chart_here","_law_start_here","_law_rows"] (spD K 3 S_q6):=⟨a_q6,_,ok_q6 F_q6 T C_q3,PySem.W.mg_of X G e_q6,k_q6,b_q6⟩
 have C_q24:Cal l.prog w K mg base 5 "claim_of" ["chart","start","ahead","row"] (spD K 4 S_q24):=⟨a_q24,_,ok_q24 F_q24 T C_q21 C_q34 C_q33 C_q30 C_q20 C_q26,PySem.W.mg_of X G e_q24,k_q24,b_q24⟩
 have C_q25:CalX l.prog w K mg base 6 "claims" ["chart","start","rows"] (spX K 3 S_q25):=⟨a_q25,_,ok_q25 F_q25 T R_NoPaper C_q24,PySem.W.mg_of X G e_q25,k_q25,b_q25⟩
 have C_q19:Cal l.prog w K mg base 7 "_law_told" ["_law_chart_here","_law_start_here","_law_rows"] (spD K 3 S_q19):=⟨a_q19,_,ok_q19 F_q19 T C_q25,PySem.W.mg_of X G e_q19,k_q19,b_q19⟩
 exact ok_q31 F_q31 T C_q1 C_q2 C_q17 C_q13 C_q16 C_q11 C_q4 C_q6 C_q19
end K32
namespace PySem.W
open PySem PySem.Calls PyProof.Rows
noncomputable section
def topT(p:Program)(w:World)(n:Nat)(ann:Option Value):Nat→SharedT→Thread→Option SharedT
 |0,_,_=>none
 |m + 1,s,t=>match through t with
  |true=>some s
  |false=>match Fast.tw6613529449190102663 n ann t with
   |false=>none
   |true=>match Fast.tw10156331382660048174 (Fast.tw11892475500146522536 Fast.tw14364793385576792824) p w s t with
    |none=>none
    |some (s',t')=>topT p w n ann m s' t'
 termination_by structural m=>m
theorem topT_of{p:Program}{w:World}{n:Nat}{ann:Option Value}:∀ {m:Nat} {s s':SharedT} {t:Thread},topT p w n ann m s t=some s'→topRun treeTable p w n ann m s.abs t=some s'.abs
 |0,_,_,_,h=>nomatch h
 |m + 1,s,s',t,h=>by
  unfold topT at h
  unfold topRun
  cases ht:through t with
  |true =>
   rw [ht] at h
   exact congrArg (fun x=>some (SharedT.abs x)) (Option.some.inj h)
  |false =>
   rw [ht,← Fast.te6613529449190102663,← Fast.te10156331382660048174,← Fast.te11892475500146522536,← Fast.te14364793385576792824] at h
   cases ho:stepOk n ann t with
   |false=>rw [ho] at h;cases h
   |true =>
    rw [ho] at h
    cases hs:stepT (denote treeTable) p w s t with
    |none=>rw [hs] at h;cases h
    |some x =>
     obtain ⟨s₂,t₂⟩:=x
     rw [hs] at h
     show (match step (denote treeTable) p w s.abs t with | .go a b=>topRun treeTable p w n ann m a b | .halt _ _=>none)=_
     rw [stepT_spec hs]
     exact topT_of h
def bootB(P:Params):BT :=
 .node (boot_o_0 P)
  (.node (boot_o_1 P) (.node (boot_o_3 P) (.node (boot_o_7 P) .nil .nil) .nil) (.node (boot_o_5 P) (.node (boot_o_9 P) .nil .nil) .nil))
  (.node (boot_o_2 P) (.node (boot_o_4 P) (.node (boot_o_8 P) .nil .nil) .nil) (.node (boot_o_6 P) (.node (boot_o_10 P) .nil .nil) .nil))
def bootT(P:Params)(os:OsState):SharedT:=⟨bootB P,11,(boot_heap P).life,Array.mk [],boot_drawn,boot_toks,os⟩
theorem bootT_abs(P:Params)(os:OsState):(bootT P os).abs=⟨boot_heap P,Array.mk [],boot_drawn,boot_toks,os⟩:=by kernel_rfl
theorem boot_size(P:Params):((boot_heap P).isNs mainGlobals,(boot_heap P).objs.size,(boot_heap P).nsMap mainGlobals "__annotations__")=(true,11,some (.ref 6)):=by kernel_rfl
def HL{α:Type}(p q:Program)(loose:List Str)(Xt:Shared→Bool)(Yf:Shared→α)(Ya:World→α)(M:Nat)(w:World):Prop :=
 ∀ os:OsState,(topT p w 11 (some (.ref 6)) M (bootT w.params os) (topStub p)).map (fun s =>
  ((staticsOk (Fast.tw5923862056798008813 p.main.body) (boot_heap w.params) s.abs.heap && namesBound p s.abs.heap && gensDone s.abs && laidKept (boot_heap w.params) s.abs.heap),
   Fast.tw4187177175401517315 q loose (Fast.tw5923862056798008813 p.main.body) Xt true s.abs,Yf s.abs))=some (true,openGood q loose,Ya w)
theorem left_by{p q:Program}{loose:List Str}{Xt:Shared→Bool}{α:Type}{Yf:Shared→α}{Ya:World→α}{N:Nat}
  (e:opening p=plainProg p.main.scope.names) (f:∀ s,fenceModules? p s=some s) (le:Nat.ble 600 N=true) (h:∀ w,HL p q loose Xt Yf Ya N w) :
  LeftO p q loose Xt Yf Ya N:=by
 intro w
 obtain ⟨⟨hp,gs,d,k,os⟩,e1,e2⟩:=Option.map_eq_some_iff.mp (boot_open e le f w)
 obtain ⟨rfl,rfl,rfl,rfl⟩:hp=boot_heap w.params∧gs=Array.mk []∧d=boot_drawn∧k=boot_toks:=by simpa using e2
 obtain ⟨z1,z2,z3⟩:_∧_∧_:=by simpa only [Prod.mk.injEq] using boot_size w.params
 obtain ⟨s,h1,h2⟩:=Option.map_eq_some_iff.mp (h w os)
 rw [← Fast.te4187177175401517315,← Fast.te5923862056798008813] at h2
 obtain ⟨l1,l2,l3⟩:_∧_∧_:=by simpa only [Prod.mk.injEq] using h2
 have r:=topT_of h1
 rw [bootT_abs] at r
 have t:topFrom treeTable p w N ⟨boot_heap w.params,Array.mk [],boot_drawn,boot_toks,os⟩=some s.abs:=by
  unfold topFrom
  dsimp only
  rw [z1,z2,z3,r]
  show (match staticsOk (importedModules p.main.body) (boot_heap w.params) s.abs.heap && namesBound p s.abs.heap && gensDone s.abs && laidKept (boot_heap w.params) s.abs.heap with | true=>_ | false=>_)=_
  rw [l1]
 unfold openEnds
 rw [e1]
 show (topFrom treeTable p w N _).map _=_
 rw [t]
 exact congrArg some (Prod.ext l2 l3)
theorem holds_own{r:OpenRow}{q:Program}{loose:List Str}{Xt:Shared→Bool}{XP:(Str→Option Value)→Heap→Prop}{α:Type}{Yf:Shared→α}{Ya:World→α}{YP:World→Heap→Prop}{d:DefRec}{kwd:List (Str×Expr)}{N:Nat}
  (hY:∀ w s,Yf s=Ya w→YP w s.heap) (hYk:∀ w h h',YP w h→(∀ b o,h.get? b=some o→h'.get? b=some o)→YP w h')
  (hX:∀ s,Xt s=true→XP (s.heap.nsMap mainGlobals) s.heap) (hXk:∀ mg h h',XP mg h→(∀ b o,h.get? b=some o→h'.get? b=some o)→XP mg h')
  (hdef:defOf q r.name=some (d,kwd)) (hp:r.prog.theDef r.name=some (d.params,d.body,d.scope)) (hk:kwWritten? d.params.kwonlyargs d.params.kw_defaults=some kwd)
  (hRf:∀ s,Xt s=true→RecFacts r.records s.heap) (hwr:(!r.writes || r.records.isEmpty)=true)
  (k1:r.wellSaid=true) (ok:(chainsOk q && opensWell r.prog && (frees r.toRowW && r.within.isEmpty))=true) (hb:r.prog.bare)
  (e:opening r.prog=plainProg r.prog.main.scope.names) (f:∀ s,fenceModules? r.prog s=some s) (le:Nat.ble 600 N=true)
  (hw:r.toRowW.promised) (x:(∀ w,HL r.prog q loose Xt Yf Ya N w)∧WalkO q loose XP YP r.toRowW d kwd fun f vs=>PySem.call f vs):r.Holds :=
 holds_open (left_by e f le x.1) hY hYk hX hXk hdef hp hk hRf hwr k1 ok hb hw x.2
def sideP{P:World→Prop}{B C:Prop}(_:(∀ w,P w)∧B→C):World→Prop:=P
end
end PySem.W
namespace K32
noncomputable def qv:PySem.Program:=PySem.W.view PySem.Challenge.pw_callmatch_k32_no_paper [1,2,3,4,5,6,7,8,10,11,13,14,15,16,18,19,20,21,22,23,24,25,26,27,29,30,31,32,33,34,35,36,37,38,39,40,41,42,43,44,45,46,47,48,49]
open PySem.W in
local macro_rules
 |`(tactic| o_head $H)=>`(tactic|
   refine holds_own (q:=qv) (loose:= ["MOVE_TABLES"])
     (Xt:=fun s=>xlAt qv [] s && recOk (RowW.records (OpenRow.toRowW (OpenLaw.row PySem.Challenge.rw_callmatch_k32_no_paper))) s)
     (XP:=XL qv []) (Yf:=Hook.obs $H) (Ya:=Hook.val $H)
     (YP:=Hook.says $H) (N:=20000) (Hook.of $H) (Hook.keeps $H)
     (fun s e=>xl_of s (Bool.and_eq_true_iff.mp e).1) XL.keeps (by rfl) (by rfl) (by rfl)
     (fun s e=>recFacts_of (Bool.and_eq_true_iff.mp e).2) (by rfl) (by assumption)
     (by decide +kernel) ⟨rfl,rfl,rfl,rfl,rfl,by decide +kernel⟩ (by kernel_rfl) (fun _=>by kernel_rfl) (by decide) ?hw ?hc)
open_top opened for PySem.Challenge.rw_callmatch_k32_no_paper
set_option maxHeartbeats 0 in
theorem side_false(w:PySem.World):PySem.W.sideP opened (w.withFollow "special-get-raises" false):=by
 intro os
 kernel_rfl
set_option maxHeartbeats 0 in
theorem side_true(w:PySem.World):PySem.W.sideP opened (w.withFollow "special-get-raises" true):=by
 intro os
 kernel_rfl
end K32
open PySem PySem.W PyProof.Rows
set_option maxRecDepth 100000 in
set_option maxHeartbeats 0 in
theorem PySem.Challenge.cw_callmatch_k32_no_paper_holds : PySem.Challenge.rw_callmatch_k32_no_paper.Holds := by
  refine K32.opened ⟨PySem.W.byRow2 (P := PySem.W.sideP K32.opened) "special-get-raises" K32.side_false K32.side_true, ?_⟩
  k_fill
  refine DL.walkD (l := PySem.Challenge.rw_callmatch_k32_no_paper) (n := 63) (k := 8) (S := K32.S_q31) (x := "_law_script") rfl (by decide) rfl ⟨rfl, by decide, by decide⟩ (fun w h Y => PySem.W.kIn_of Y) ?F K32.law_true
  case F =>
    intro w mg fa h KX G hmg
    refine' K32.all_mk KX G hmg ?e_q29 ?l_q29 ?c_q29 ?k_q29 ?e_q22 ?l_q22 ?c_q22 ?k_q22 ?e_q28 ?l_q28 ?c_q28 ?k_q28 ?e_q35 ?l_q35 ?c_q35 ?k_q35 ?e_q27 ?l_q27 ?c_q27 ?k_q27 ?e_q25 ?l_q25 ?c_q25 ?k_q25 ?e_q24 ?l_q24 ?c_q24 ?k_q24 ?e_q23 ?l_q23 ?c_q23 ?k_q23 ?e_q21 ?l_q21 ?c_q21 ?k_q21 ?e_q34 ?l_q34 ?c_q34 ?k_q34 ?e_q26 ?l_q26 ?c_q26 ?k_q26 ?e_q33 ?l_q33 ?c_q33 ?k_q33 ?e_q30 ?l_q30 ?c_q30 ?k_q30 ?e_q20 ?l_q20 ?c_q20 ?k_q20 ?e_q32 ?l_q32 ?c_q32 ?k_q32 ?e_q1 ?l_q1 ?c_q1 ?k_q1 ?e_q11 ?l_q11 ?c_q11 ?k_q11 ?e_q5 ?l_q5 ?c_q5 ?k_q5 ?e_q18 ?l_q18 ?c_q18 ?k_q18 ?e_q7 ?l_q7 ?c_q7 ?k_q7 ?e_q2 ?l_q2 ?c_q2 ?k_q2 ?e_q17 ?l_q17 ?c_q17 ?k_q17 ?e_q4 ?l_q4 ?c_q4 ?k_q4 ?e_q0 ?l_q0 ?c_q0 ?k_q0 ?e_q8 ?l_q8 ?c_q8 ?k_q8 ?e_q15 ?l_q15 ?c_q15 ?k_q15 ?e_q12 ?l_q12 ?c_q12 ?k_q12 ?e_q3 ?l_q3 ?c_q3 ?k_q3 ?e_q9 ?l_q9 ?c_q9 ?k_q9 ?e_q10 ?l_q10 ?c_q10 ?k_q10 ?e_q14 ?l_q14 ?c_q14 ?k_q14 ?e_q13 ?l_q13 ?c_q13 ?k_q13 ?e_q16 ?l_q16 ?c_q16 ?k_q16 ?e_q6 ?l_q6 ?c_q6 ?k_q6 ?e_q19 ?l_q19 ?c_q19 ?k_q19 ?e_q31 ?l_q31 ?c_q31 ?k_q31 ?z_ValueError ?z_bool ?z_enumerate ?z_int ?z_isinstance ?z_len ?z_list ?z_min ?z_range ?z_sum ?z_tuple ?y_MOVE_TABLES ?d_MOVE_TABLES ?e_NoPaper ?e_CallError ?e_NoChart ?e_NoName ?e_NoTable ?e_NoText ?e_NoWay ?e_TooLong ?l_NoPaper ?t_NoPaper ?o_NoPaper ?i_NoPaper ?l_i ?c_i ?k_i ?sa_NoPaper ?ga_NoPaper ?gg_NoPaper ?cl_NoPaper ?cg_NoPaper ?ct_NoPaper ?mo_NoPaper ?n_row ?rd_CallError ?fc_CallError ?sp_CallError ?m_CallError ?q_NoChart ?q_NoName ?q_NoPaper ?q_NoTable ?q_NoText ?q_NoWay ?q_TooLong ?q_ValueError
    (case e_q29 => k_is)
    (case l_q29 => k_is)
    (case c_q29 => k_is)
    (case k_q29 => k_is)
    (case e_q22 => k_is)
    (case l_q22 => k_is)
    (case c_q22 => k_is)
    (case k_q22 => k_is)
    (case e_q28 => k_is)
    (case l_q28 => k_is)
    (case c_q28 => k_is)
    (case k_q28 => k_is)
    (case e_q35 => k_is)
    (case l_q35 => k_is)
    (case c_q35 => k_is)
    (case k_q35 => k_is)
    (case e_q27 => k_is)
    (case l_q27 => k_is)
    (case c_q27 => k_is)
    (case k_q27 => k_is)
    (case e_q25 => k_is)
    (case l_q25 => k_is)
    (case c_q25 => k_is)
    (case k_q25 => k_is)
    (case e_q24 => k_is)
    (case l_q24 => k_is)
    (case c_q24 => k_is)
    (case k_q24 => k_is)
    (case e_q23 => k_is)
    (case l_q23 => k_is)
    (case c_q23 => k_is)
    (case k_q23 => k_is)
    (case e_q21 => k_is)
    (case l_q21 => k_is)
    (case c_q21 => k_is)
    (case k_q21 => k_is)
    (case e_q34 => k_is)
    (case l_q34 => k_is)
    (case c_q34 => k_is)
    (case k_q34 => k_is)
    (case e_q26 => k_is)
    (case l_q26 => k_is)
    (case c_q26 => k_is)
    (case k_q26 => k_is)
    (case e_q33 => k_is)
    (case l_q33 => k_is)
    (case c_q33 => k_is)
    (case k_q33 => k_is)
    (case e_q30 => k_is)
    (case l_q30 => k_is)
    (case c_q30 => k_is)
    (case k_q30 => k_is)
    (case e_q20 => k_is)
    (case l_q20 => k_is)
    (case c_q20 => k_is)
    (case k_q20 => k_is)
    (case e_q32 => k_is)
    (case l_q32 => k_is)
    (case c_q32 => k_is)
    (case k_q32 => k_is)
    (case e_q1 => k_is)
    (case l_q1 => k_is)
    (case c_q1 => k_is)
    (case k_q1 => k_is)
    (case e_q11 => k_is)
    (case l_q11 => k_is)
    (case c_q11 => k_is)
    (case k_q11 => k_is)
    (case e_q5 => k_is)
    (case l_q5 => k_is)
    (case c_q5 => k_is)
    (case k_q5 => k_is)
    (case e_q18 => k_is)
    (case l_q18 => k_is)
    (case c_q18 => k_is)
    (case k_q18 => k_is)
    (case e_q7 => k_is)
    (case l_q7 => k_is)
    (case c_q7 => k_is)
    (case k_q7 => k_is)
    (case e_q2 => k_is)
    (case l_q2 => k_is)
    (case c_q2 => k_is)
    (case k_q2 => k_is)
    (case e_q17 => k_is)
    (case l_q17 => k_is)
    (case c_q17 => k_is)
    (case k_q17 => k_is)
    (case e_q4 => k_is)
    (case l_q4 => k_is)
    (case c_q4 => k_is)
    (case k_q4 => k_is)
    (case e_q0 => k_is)
    (case l_q0 => k_is)
    (case c_q0 => k_is)
    (case k_q0 => k_is)
    (case e_q8 => k_is)
    (case l_q8 => k_is)
    (case c_q8 => k_is)
    (case k_q8 => k_is)
    (case e_q15 => k_is)
    (case l_q15 => k_is)
    (case c_q15 => k_is)
    (case k_q15 => k_is)
    (case e_q12 => k_is)
    (case l_q12 => k_is)
    (case c_q12 => k_is)
    (case k_q12 => k_is)
    (case e_q3 => k_is)
    (case l_q3 => k_is)
    (case c_q3 => k_is)
    (case k_q3 => k_is)
    (case e_q9 => k_is)
    (case l_q9 => k_is)
    (case c_q9 => k_is)
    (case k_q9 => k_is)
    (case e_q10 => k_is)
    (case l_q10 => k_is)
    (case c_q10 => k_is)
    (case k_q10 => k_is)
    (case e_q14 => k_is)
    (case l_q14 => k_is)
    (case c_q14 => k_is)
    (case k_q14 => k_is)
    (case e_q13 => k_is)
    (case l_q13 => k_is)
    (case c_q13 => k_is)
    (case k_q13 => k_is)
    (case e_q16 => k_is)
    (case l_q16 => k_is)
    (case c_q16 => k_is)
    (case k_q16 => k_is)
    (case e_q6 => k_is)
    (case l_q6 => k_is)
    (case c_q6 => k_is)
    (case k_q6 => k_is)
    (case e_q19 => k_is)
    (case l_q19 => k_is)
    (case c_q19 => k_is)
    (case k_q19 => k_is)
    (case e_q31 => k_is)
    (case l_q31 => k_is)
    (case c_q31 => k_is)
    (case k_q31 => k_is)
    (case z_ValueError => k_is)
    (case z_bool => k_is)
    (case z_enumerate => k_is)
    (case z_int => k_is)
    (case z_isinstance => k_is)
    (case z_len => k_is)
    (case z_list => k_is)
    (case z_min => k_is)
    (case z_range => k_is)
    (case z_sum => k_is)
    (case z_tuple => k_is)
    (case y_MOVE_TABLES => k_is)
    (case d_MOVE_TABLES => k_is)
    (case e_NoPaper => k_is)
    (case e_CallError => k_is)
    (case e_NoChart => k_is)
    (case e_NoName => k_is)
    (case e_NoTable => k_is)
    (case e_NoText => k_is)
    (case e_NoWay => k_is)
    (case e_TooLong => k_is)
    (case l_NoPaper => k_is)
    (case t_NoPaper => kernel_rfl)
    (case o_NoPaper => kernel_rfl)
    (case i_NoPaper => k_is)
    (case l_i => k_is)
    (case c_i => k_is)
    (case k_i => k_is)
    (case sa_NoPaper => k_is)
    (case ga_NoPaper => k_is)
    (case gg_NoPaper => k_is)
    (case cl_NoPaper => k_is)
    (case cg_NoPaper => k_is)
    (case ct_NoPaper => k_is)
    (case mo_NoPaper => k_is)
    (case n_row => k_is)
    (case rd_CallError => k_is)
    (case fc_CallError => k_is)
    (case sp_CallError => k_is)
    (case m_CallError => kernel_rfl)
    (case q_NoChart => kernel_rfl)
    (case q_NoName => kernel_rfl)
    (case q_NoPaper => kernel_rfl)
    (case q_NoTable => kernel_rfl)
    (case q_NoText => kernel_rfl)
    (case q_NoWay => kernel_rfl)
    (case q_TooLong => kernel_rfl)
    (case q_ValueError => kernel_rfl)
#print axioms PySem.Challenge.cw_callmatch_k32_no_paper_holds
