import PyProof.Rows.All
import Wide.All
import OpenK.AllK
import Wide.FinOn
import Lean
import PyProof.EqAt
import PyProof.EqKinds
import PyProof.TupleCall
import PyProof.EqLayable
import PyProof.P3In
import PyProof.Draws
import PyProof.EnumMake
import PyProof.CompFree
import PyProof.CompUse
import KE.KRevIter
import PyProof.DictIter
import PyProof.ZipIter
import PyProof.ListMulRoad
import PyProof.ConsumeWalk
import PyProof.ListRange
import PyProof.StrWalks
import PyProof.FString5
import PyProof.StrOps
import KE.KIntText
import PyProof.SliceStr2
import PyProof.StrBlock
import PyProof.StrCalls
import PyProof.StrLawsIn
import KE.IntTextLaws
import PyProof.Rows.StrMadeLen
import PyProof.Rows.SeqMore2
import PyProof.Rows.SeqMore
import PySem.Challenge.RW_callmatch_k64_charts_of_programs
set_option Elab.async false
set_option linter.all false
set_option maxRecDepth 100000
set_option genSizeOfSpec false
set_option compiler.extract_closed false
set_option maxHeartbeats 4000000
local macro_rules | `(tactic| trivial) => `(tactic| first | exact .inl rfl | exact .inr (.inl rfl) | exact .inr (.inr rfl) | exact .inr rfl | assumption)
namespace L2
open PySem PySem.Spec PyProof.Rows
noncomputable abbrev Key:=Sum Int Str
noncomputable def keyIs:Key→Value→Bool
 |.inl k,v=>Value.isInt k v
 |.inr x,v=>Value.isStrOf x v
noncomputable def keyH(w:World):Key→Int
 |.inl k=>hashInt k
 |.inr x=>hashStr w x
theorem keyIs_shape:∀ {k:Key} {v:Value},keyIs k v=true→(∃ i t,k=Sum.inl i∧v=Value.int i t)∨(∃ x t,k=Sum.inr x∧v=Value.str x t)
 |.inl i,v,h=>by
  obtain ⟨t,e⟩:=Value.isInt_shape (k:=i) (v:=v) h
  exact .inl ⟨i,t,rfl,e⟩
 |.inr x,v,h=>by
  obtain ⟨t,e⟩:=Value.isStrOf_shape (x:=x) (v:=v) h
  exact .inr ⟨x,t,rfl,e⟩
theorem keyIs_int(i:Int)(t:Tok):keyIs (.inl i) (.int i t)=true:=by simp [keyIs,Value.isInt]
theorem keyIs_str(x:Str)(t:Tok):keyIs (.inr x) (.str x t)=true:=by simp [keyIs,Value.isStrOf]
theorem key_ll(a b:Int):decide ((Sum.inl a:Key)=Sum.inl b)=(a == b):=by
 by_cases e:a=b
 ·subst e;simp
 ·have h:¬ (Sum.inl a:Key)=Sum.inl b:=fun q=>e (Sum.inl.inj q)
  rw [decide_eq_false h]
  exact (beq_eq_false_iff_ne.mpr e).symm
theorem key_rr(a b:Str):decide ((Sum.inr a:Key)=Sum.inr b)=decide (a=b):=by
 by_cases e:a=b
 ·subst e;simp
 ·have h:¬ (Sum.inr a:Key)=Sum.inr b:=fun q=>e (Sum.inr.inj q)
  rw [decide_eq_false h,decide_eq_false e]
theorem key_lr(a:Int)(b:Str):decide ((Sum.inl a:Key)=Sum.inr b)=false:=decide_eq_false (fun q=>nomatch q)
theorem key_rl(a:Str)(b:Int):decide ((Sum.inr a:Key)=Sum.inl b)=false:=decide_eq_false (fun q=>nomatch q)
noncomputable def mixKind(prog:Program)(w:World):PySem.KeyKind prog w Key where
 is:=keyIs
 hash:=keyH w
 inj:=fun v a b ha hb=>by
  rcases keyIs_shape ha with ⟨i,t,rfl,rfl⟩ | ⟨x,t,rfl,rfl⟩
  ·rcases keyIs_shape hb with ⟨j,u,rfl,e⟩ | ⟨y,u,rfl,e⟩
   ·injection e with e1 _;rw [e1]
   ·exact nomatch e
  ·rcases keyIs_shape hb with ⟨j,u,rfl,e⟩ | ⟨y,u,rfl,e⟩
   ·exact nomatch e
   ·injection e with e1 _;rw [e1]
 byValue:=fun k v h=>by
  rcases keyIs_shape h with ⟨i,t,rfl,rfl⟩ | ⟨x,t,rfl,rfl⟩ <;> rfl
 pyHash:=fun hv h=>by
  rcases keyIs_shape hv with ⟨i,t,rfl,rfl⟩ | ⟨x,t,rfl,rfl⟩
  ·exact wpAny_pyHash_int h
  ·exact wpAny_pyHash_str h
 eqBool:=fun hu hv h=>by
  rcases keyIs_shape hu with ⟨i,t,rfl,rfl⟩ | ⟨x,t,rfl,rfl⟩
  ·rcases keyIs_shape hv with ⟨j,u,rfl,rfl⟩ | ⟨y,u,rfl,rfl⟩
   ·rw [key_ll] at h;exact wpAny_eqBool_int h
   ·rw [key_lr] at h;exact SeqAt.EqAt.int_str i t y u _ _ _ _ h
  ·rcases keyIs_shape hv with ⟨j,u,rfl,rfl⟩ | ⟨y,u,rfl,rfl⟩
   ·rw [key_rl] at h;exact SeqAt.EqAt.str_int x t j u _ _ _ _ h
   ·rw [key_rr] at h;exact wpAny_eqBool_str h
 «strs»:=fun k x t v h=>by
  rcases keyIs_shape h with ⟨i,u,rfl,e⟩ | ⟨y,u,rfl,e⟩
  ·exact nomatch e
  ·injection e with e1 _
   subst e1
   cases v <;> rfl
theorem mixKind_int(prog:Program)(w:World)(i:Int)(t:Tok):(mixKind prog w).is (.inl i) (.int i t)=true:=keyIs_int i t
theorem mixKind_str(prog:Program)(w:World)(x:Str)(t:Tok):(mixKind prog w).is (.inr x) (.str x t)=true:=keyIs_str x t
end L2
namespace L2
open PySem PySem.Spec PyProof.Rows
inductive V where
 |non | bl (b:Bool) | int (i:Int) | str (x:Str) | byt (b:Array UInt8) | flt (b:UInt64) | ref (a:Addr) | ty (n:String)
 deriving DecidableEq
noncomputable def RelV:V→Value→Prop
 |.non,u=>u=Value.none
 |.bl b,u=>u=Value.bool b
 |.int i,u=>∃ t,u=Value.int i t
 |.str x,u=>∃ t,u=Value.str x t
 |.byt b,u=>∃ t,u=Value.bytes b t
 |.flt b,u=>∃ t,u=Value.float b t
 |.ref a,u=>u=Value.ref a
 |.ty n,u=>u=Value.type n
noncomputable abbrev Vals:List V→List Value→Prop:=Paired RelV
theorem Vals.length{xs:List V}{us:List Value}(r:Vals xs us):xs.length=us.length:=Paired.length r
theorem Vals.get:∀ {xs:List V} {us:List Value} {i:Nat} {x:V},Vals xs us→xs[i]?=some x→∃ u,us[i]?=some u∧RelV x u
 |_,_,_,_,.nil,e=>by simp at e
 |_,_,0,_,.cons r _,e=>by simp at e;subst e;exact ⟨_,rfl,r⟩
 |_,_,i + 1,x,.cons _ t,e=>by
  obtain ⟨u,h1,h2⟩:=Vals.get (i:=i) (x:=x) t (by simpa using e)
  exact ⟨u,by simpa using h1,h2⟩
theorem Vals.set{x:V}{u:Value}(r:RelV x u):∀ {xs:List V} {us:List Value} (i:Nat),Vals xs us→Vals (xs.set i x) (us.set i u)
 |_,_,_,.nil=>.nil
 |_,_,0,.cons _ t=>.cons r t
 |_,_,i + 1,.cons q t=>.cons q (Vals.set r i t)
theorem Vals.append:∀ {xs ys:List V} {us ws:List Value},Vals xs us→Vals ys ws→Vals (xs ++ ys) (us ++ ws)
 |_,_,_,_,.nil,s=>s
 |_,_,_,_,.cons r t,s=>.cons r (Vals.append t s)
theorem Vals.take:∀ {xs:List V} {us:List Value} (n:Nat),Vals xs us→Vals (xs.take n) (us.take n)
 |_,_,0,_=>.nil
 |_,_,_ + 1,.nil=>.nil
 |_,_,n + 1,.cons r t=>.cons r (Vals.take n t)
theorem Vals.drop:∀ {xs:List V} {us:List Value} (n:Nat),Vals xs us→Vals (xs.drop n) (us.drop n)
 |_,_,0,r=>r
 |_,_,_ + 1,.nil=>.nil
 |_,_,n + 1,.cons _ t=>Vals.drop n t
noncomputable def RelO:Option V→Option Value→Prop
 |some v,some u=>RelV v u
 |none,none=>True
 |_,_=>False
noncomputable def KV{κ:Type}:List (κ×V)→List (κ×Value)→Prop:=Paired fun (p:κ×V) (q:κ×Value)=>p.1=q.1∧RelV p.2 q.2
noncomputable def kV:Key→V
 |.inl i=>.int i
 |.inr x=>.str x
inductive HO where
 |lst (xs:List V)
 |tup (xs:List V)
 |dK (kvs:List (Key×V)) | dT (kvs:List (List Key×V))
 |set (S:Int→Bool) (n:Nat)
 |ins (C dx:Addr) (fs:List (Str×V))
 |own (x:Addr)
 |xd (fs:List (Str×V))
 |met (f x:Addr)
 |rng (lo hi:Int)
 |frz (o:Obj) (u:HO)
 |tbl (ps:Array Value)
 |ext (φ:Heap→Prop)
noncomputable abbrev Hp:=Addr→Option HO
noncomputable def upd(H:Hp)(a:Addr)(o:HO):Hp:=fun b=>if b=a then some o else H b
theorem upd_same{H:Hp}{a:Addr}{o:HO}:upd H a o a=some o:=by unfold upd;rw [if_pos rfl]
theorem upd_ne{H:Hp}{a b:Addr}{o:HO}(h:b ≠ a):upd H a o b=H b:=by unfold upd;rw [if_neg h]
theorem ne_of_none{H:Hp}{a b:Addr}{o:HO}(h:H a=some o)(h':H b=none):a ≠ b:=by
 intro e;subst e;rw [h] at h';cases h'
section
variable (P:Program) (w:World)
noncomputable def ObjOk(H:Hp)(h:Heap)(a:Addr):HO→Prop
 |.lst xs=>xs.length ≤ sizeLine∧∃ (its:List Value) (n:Nat),Vals xs its∧h.get? a=some { cls:=.type "list",data:=.seq its.toArray n }
 |.tup xs=>xs.length ≤ sizeLine∧∃ its:List Value,Vals xs its∧IsTup h a its.toArray
 |.dK kvs=>kvs.length ≤ sizeLine∧(a == sysModules)=false∧∃ vs,KV kvs vs∧h.DictOf (mixKind P w) a vs
 |.dT kvs=>kvs.length ≤ sizeLine∧(a == sysModules)=false∧∃ xs:List (List Key×Addr×Value),
   Paired (fun (p:List Key×V) (q:List Key×Addr×Value)=>p.1=q.1∧H q.2.1=some (.tup (p.1.map kV))∧RelV p.2 q.2.2) kvs xs ∧
   ∃ o es ep,h.get? a=some o∧o.ExactDict∧o.data = .dict es ep∧es.toList=xs.map (entryOfKey (tupleKind (mixKind P w)))∧(xs.map (·.1)).Nodup
 |.set S n=>h.SetOf (intKind P w) a S n
 |.ins C dx fs=>H dx=some (.own a)∧fs.length ≤ 1000∧dx ≠ a∧h.get? a=some (PySem.W.instObj C dx) ∧
   ∃ mA,h.Ns1 dx mA∧(∀ f,RelO (fs.lookup f) (mA f))∧PySem.Within mA (fs.map (·.1))
 |.own _=>∃ o,h.get? a=some o
 |.xd fs=>∃ mA,h.Ns1 a mA∧∀ f,RelO (fs.lookup f) (mA f)
 |.rng lo hi=>∃ t u v,h.get? a=some { cls:=.type "range",data:=.fields #[.int lo t,.int hi u,.int 1 v] }
 |.frz o u=>h.get? a=some o∧ObjOk H h a u
 |.tbl ps=>h.get? a=some { cls:=.none,data:=.fields ps }
 |.met f x=>h.get? a=some (PySem.W.methodObj (.ref f) (.ref x))
 |.ext φ=>φ h∧(∃ o,h.get? a=some o)∧∀ h1 h2:Heap,φ h1→(∀ o,h1.get? a=some o→h2.get? a=some o)→φ h2
noncomputable def HOk(H:Hp)(h:Heap):Prop:=∀ a o,H a=some o→ObjOk P w H h a o
end
section
variable {P:Program} {w:World} {H H':Hp} {h h':Heap} {a:Addr} {o:HO}
theorem ObjOk.lt(x:ObjOk P w H h a o):a < h.objs.size:=by
 cases o with
 |lst xs=>obtain ⟨_,_,_,_,e⟩:=x;exact Heap.lt_size e
 |tup xs=>obtain ⟨_,_,_,p⟩:=x;exact p.lt
 |dK kvs=>obtain ⟨_,_,_,_,o,_,_,e,_⟩:=x;exact Heap.lt_size e
 |dT kvs=>obtain ⟨_,_,_,_,o,_,_,e,_⟩:=x;exact Heap.lt_size e
 |set S n=>obtain ⟨o,_,_,_,e,_⟩:=x;exact Heap.lt_size e
 |ins C dx fs=>obtain ⟨_,_,_,e,_⟩:=x;exact Heap.lt_size e
 |own y=>obtain ⟨_,e⟩:=x;exact Heap.lt_size e
 |xd fs=>obtain ⟨_,⟨_,_,_,e,_⟩,_⟩:=x;exact Heap.lt_size e
 |rng lo hi=>obtain ⟨_,_,_,e⟩:=x;exact Heap.lt_size e
 |frz ob u=>obtain ⟨e,_⟩:=x;exact Heap.lt_size e
 |tbl ps=>exact Heap.lt_size (show h.get? a=some _ from x)
 |met f y=>exact Heap.lt_size (show h.get? a=some _ from x)
 |ext φ=>obtain ⟨_,⟨_,e⟩,_⟩:=x;exact Heap.lt_size e
theorem Paired.mapP{α β:Type}{F G:α→β→Prop}{l₁:List α}{l₂:List β}(h:Paired F l₁ l₂)(f:∀ a b,F a b→G a b):Paired G l₁ l₂:=by
 induction h with
 |nil=>exact .nil
 |cons r _ ih=>exact .cons (f _ _ r) ih
theorem ObjOk.stay(x:ObjOk P w H h a o)(k:∀ b u,(b=a∨H b=some (.own a))→h.get? b=some u→h'.get? b=some u)
  (ho:∀ b,H b=some (.own a)→H' b=some (.own a)) (ht:∀ b xs,H b=some (.tup xs)→H' b=some (.tup xs)):ObjOk P w H' h' a o:=by
 induction o with
 |lst xs=>obtain ⟨z,its,n,r,e⟩:=x;exact ⟨z,its,n,r,k _ _ (.inl rfl) e⟩
 |tup xs=>obtain ⟨z,its,r,ob,e,c⟩:=x;exact ⟨z,its,r,ob,k _ _ (.inl rfl) e,c⟩
 |dK kvs=>obtain ⟨z,y,vs,r,ob,es,ep,e,c⟩:=x;exact ⟨z,y,vs,r,ob,es,ep,k _ _ (.inl rfl) e,c⟩
 |dT kvs =>
  obtain ⟨z,y,xs,r,ob,es,ep,e,c⟩:=x
  exact ⟨z,y,xs,Paired.mapP r fun p q z=>⟨z.1,ht _ _ z.2.1,z.2.2⟩,ob,es,ep,k _ _ (.inl rfl) e,c⟩
 |set S n=>obtain ⟨ob,es,ep,t,e,c⟩:=x;exact ⟨ob,es,ep,t,k _ _ (.inl rfl) e,c⟩
 |ins C dx fs =>
  obtain ⟨d,z,ne,e,mA,⟨od,es,ep,e2,c⟩,r⟩:=x
  exact ⟨ho _ d,z,ne,k _ _ (.inl rfl) e,mA,⟨od,es,ep,k _ _ (.inr d) e2,c⟩,r⟩
 |own y=>obtain ⟨ob,e⟩:=x;exact ⟨ob,k _ _ (.inl rfl) e⟩
 |xd fs=>obtain ⟨mA,⟨od,es,ep,e,c⟩,r⟩:=x;exact ⟨mA,⟨od,es,ep,k _ _ (.inl rfl) e,c⟩,r⟩
 |rng lo hi=>obtain ⟨t,u,v,e⟩:=x;exact ⟨t,u,v,k _ _ (.inl rfl) e⟩
 |frz ob u ih=>obtain ⟨e,q⟩:=x;exact ⟨k _ _ (.inl rfl) e,ih q⟩
 |tbl ps =>
  have e:h.get? a=some { cls:=.none,data:=.fields ps }:=x
  show h'.get? a=some { cls:=.none,data:=.fields ps }
  exact k a _ (.inl rfl) e
 |met f y =>
  have e:h.get? a=some (PySem.W.methodObj (.ref f) (.ref y)):=x
  show h'.get? a=some (PySem.W.methodObj (.ref f) (.ref y))
  exact k a _ (.inl rfl) e
 |ext φ=>obtain ⟨p,⟨o,e⟩,st⟩:=x;exact ⟨st _ _ p fun o q=>k _ _ (.inl rfl) q,⟨o,k _ _ (.inl rfl) e⟩,st⟩
theorem HOk.lt(x:HOk P w H h)(e:H a=some o):a < h.objs.size:=(x a o e).lt
theorem HOk.fresh(x:HOk P w H h)(e:h.objs.size ≤ a):H a=none:=by
 cases q:H a with
 |none=>rfl
 |some u=>exact absurd (Nat.lt_of_lt_of_le (x.lt q) e) (Nat.lt_irrefl _)
theorem HOk.kept(x:HOk P w H h)(k:∀ b u,h.get? b=some u→h'.get? b=some u):HOk P w H h':=fun a o e =>
 (x a o e).stay (fun b u _ q=>k b u q) (fun _ q=>q) fun _ _ q=>q
theorem HOk.laid(x:HOk P w H h)(k:∀ b u,h.get? b=some u→h'.get? b=some u)(hp:h.objs.size ≤ a)(new:ObjOk P w (upd H a o) h' a o):HOk P w (upd H a o) h':=fun b u e=>by
 have hn:=x.fresh hp
 by_cases hb:b=a
 ·subst hb;rw [upd_same] at e;cases e;exact new
 ·rw [upd_ne hb] at e
  exact (x b u e).stay (fun c v _ q=>k c v q) (fun c q=>by rw [upd_ne (ne_of_none q hn)];exact q) fun c xs q=>by rw [upd_ne (ne_of_none q hn)];exact q
end
noncomputable def Rd(H:Hp)(a:Addr)(u:HO):Prop:=H a=some u∨∃ o,H a=some (.frz o u)
theorem Rd.ok{P:Program}{w:World}{H:Hp}{h:Heap}{a:Addr}{u:HO}(r:Rd H a u)(x:HOk P w H h):ObjOk P w H h a u:=by
 rcases r with r | ⟨o,r⟩
 ·exact x a u r
 ·obtain ⟨_,q⟩:=x a _ r
  exact q
noncomputable def Mut:Option HO→Prop
 |some (.lst _)=>True
 |some (.dK _)=>True
 |some (.dT _)=>True
 |some (.set _ _)=>True
 |some (.ins _ _ _)=>True
 |some (.ext _)=>True
 |_=>False
section
variable {P:Program} {w:World} {H:Hp} {h h':Heap} {x e:Addr} {o':HO}
theorem HOk.write(ok:HOk P w H h)(mu:Mut (H x))(he:e=x∨H e=some (.own x))(k:∀ b u,b ≠ e→h.get? b=some u→h'.get? b=some u)(heo:∃ u,h'.get? e=some u)
  (new:ObjOk P w (upd H x o') h' x o'):HOk P w (upd H x o') h':=fun b u q=>by
 have nown:∀ c y,H c=some (.own y)→c ≠ x:=fun c y r z=>by subst z;rw [r] at mu;exact mu
 have ntup:∀ c xs,H c=some (.tup xs)→c ≠ x:=fun c xs r z=>by subst z;rw [r] at mu;exact mu
 by_cases hb:b=x
 ·subst hb;rw [upd_same] at q;cases q;exact new
 ·rw [upd_ne hb] at q
  by_cases hbe:b=e
  ·have q':H b=some (.own x):=by
    rcases he with z | z
    ·exact absurd (hbe.trans z) hb
    ·rw [hbe];exact z
   rw [q] at q';cases q'
   obtain ⟨v,hv⟩:=heo
   exact ⟨v,by rw [hbe];exact hv⟩
  ·refine (ok b u q).stay (fun c v hc r=>k c v ?_ r) (fun c r=>by rw [upd_ne (nown c b r)];exact r) fun c xs r=>by rw [upd_ne (ntup c xs r)];exact r
   rcases hc with rfl | hc
   ·exact hbe
   ·rintro rfl
    rcases he with z | z
    ·exact nown c b hc z
    ·rw [hc] at z;cases z;exact hb rfl
end
structure Un(fs ex:List Addr)(H H':Hp)(h h':Heap):Prop where
 keep:∀ b o,h.get? b=some o→H b=none→b ∉ fs→b ∉ ex→h'.get? b=some o
 slot:∀ b o,h.get? b=some o→H b=none→b ∈ fs→b ∉ ex→∃ sl,h'.get? b=some { o with slots:=sl }
 free:∀ b o,h.get? b=some o→H b=none→b ∉ ex→H' b=none
 there:∀ b o,h.get? b=some o→b ∉ ex→∃ o',h'.get? b=some o'
 tups:∀ b xs,H b=some (.tup xs)→H' b=some (.tup xs)
 frzs:∀ b o u,H b=some (.frz o u)→H' b=some (.frz o u)
 tbls:∀ b ps,H b=some (.tbl ps)→∃ more,H' b=some (.tbl (ps ++ more))
section
variable {fs fs' ex ex':List Addr} {H H1 H2:Hp} {h h1 h2 h':Heap} {a x e:Addr} {o:HO}
theorem Un.any(u:Un fs ex H H1 h h1){b:Addr}{ob:Obj}(q:h.get? b=some ob)(n:H b=none)(hx:b ∉ ex):∃ sl,h1.get? b=some { ob with slots:=sl }:=by
 by_cases hb:b ∈ fs
 ·exact u.slot b ob q n hb hx
 ·exact ⟨ob.slots,u.keep b ob q n hb hx⟩
theorem Un.kept(k:∀ b u,h.get? b=some u→h'.get? b=some u):Un fs ex H H h h' :=
 ⟨fun b ob q _ _ _=>k b ob q,fun b ob q _ _ _=>⟨ob.slots,k b ob q⟩,fun _ _ _ n _=>n,fun b ob q _=>⟨ob,k b ob q⟩,fun _ _ q=>q,fun _ _ _ q=>q,fun _ ps q=>⟨#[],by rw [q];simp⟩⟩
theorem Un.refl:Un fs ex H H h h:=Un.kept fun _ _ q=>q
theorem Un.laid(k:∀ b u,h.get? b=some u→h'.get? b=some u)(hp:h.objs.size ≤ a)(hn:H a=none):Un fs ex H (upd H a o) h h' where
 keep:=fun b u q _ _ _=>k b u q
 slot:=fun b u q _ _ _=>⟨u.slots,k b u q⟩
 free:=fun b u q n _=>by rw [upd_ne (Nat.ne_of_lt (Nat.lt_of_lt_of_le (Heap.lt_size q) hp))];exact n
 there:=fun b u q _=>⟨u,k b u q⟩
 tups:=fun b xs q=>by rw [upd_ne (ne_of_none q hn)];exact q
 frzs:=fun b u xs q=>by rw [upd_ne (ne_of_none q hn)];exact q
 tbls:=fun b ps q=>⟨#[],by rw [upd_ne (ne_of_none q hn),q];simp⟩
theorem Un.write(mu:Mut (H x))(he:e=x∨H e=some (.own x))(k:∀ b u,b ≠ e→h.get? b=some u→h'.get? b=some u)(heo:∃ u,h'.get? e=some u):Un fs ex H (upd H x o) h h':=by
 have hx:∀ b,H b=none→b ≠ x:=fun b n z=>by subst z;rw [n] at mu;exact mu
 have hb:∀ b,H b=none→b ≠ e:=fun b n z=>by
  subst z
  rcases he with r | r
  ·exact hx b n r
  ·rw [n] at r;cases r
 have hm:∀ b u,H b=some u→¬ Mut (some u)→b ≠ x:=fun b u q nm z=>by subst z;rw [q] at mu;exact nm mu
 refine ⟨fun b u q n _ _=>k b u (hb b n) q,fun b u q n _ _=>⟨u.slots,k b u (hb b n) q⟩,fun b u q n _=>by rw [upd_ne (hx b n)];exact n,fun b u q _=>?_,
  fun b xs q=>by rw [upd_ne (hm b _ q fun z=>z)];exact q,fun b u xs q=>by rw [upd_ne (hm b _ q fun z=>z)];exact q,fun b ps q=>⟨#[],by rw [upd_ne (hm b _ q fun z=>z),q];simp⟩⟩
 by_cases hbe:b=e
 ·subst hbe;exact heo
 ·exact ⟨u,k b u hbe q⟩
end
noncomputable def trk(h:Heap)(H:Hp):List Addr:=(List.range h.objs.size).filter fun a=>(H a).isSome
noncomputable def hidT(h:Heap)(H:Hp):Heap:=PySem.W.hideAll h (trk h H)
theorem hidT_size(h:Heap)(H:Hp):(hidT h H).objs.size=h.objs.size:=PySem.W.hideAll_size _ _
theorem hidT_get{h:Heap}{H:Hp}{b:Addr}{o:Obj}(e:h.get? b=some o)(n:H b=none):(hidT h H).get? b=some o :=
 PySem.W.hideAll_get _ e fun hm=>by
  have q:(H b).isSome=true:=(List.mem_filter.mp hm).2
  rw [n] at q;simp at q
theorem of_hidT{h:Heap}{H:Hp}{b:Addr}{o:Obj}(e:(hidT h H).get? b=some o):h.get? b=some o∧H b=none:=by
 have e':h.get? b=some o:=PySem.W.of_hideAll (trk h H) e
 refine ⟨e',?_⟩
 cases q:H b with
 |none=>rfl
 |some x =>
  have hm:b ∈ trk h H:=List.mem_filter.mpr ⟨List.mem_range.mpr (Heap.lt_size e'),by simp [q]⟩
  have z:(hidT h H).get? b=none:=PySem.W.hideAll_none (trk h H) hm
  rw [z] at e;cases e
end L2
namespace L2
open PySem PySem.Spec PyProof.Rows
structure Mod(K:PySem.W.Frag)(mg:Str→Option Value)(base:Heap):Prop where
 kin:K.In base
 glob:base.Ns mainGlobals mg
 blt:∃ mb,base.Ns builtinsNs mb∧∀ x:Str,x ≠ "__name__"→mb x=bootBuiltins x
 nolimit:base.NoLimit
set_option genInjectivity false in
structure Cx where
 prog:Program
 w:World
 K:PySem.W.Frag
 mg:Str→Option Value
 base:Heap
 A:Around
 N:List Str
 s₀:Shared
 H₀:Hp
 env:Env
 outer:List Env
 stack:List Env
 ex:List Addr
 fn:Str→Bool
 calm:Bool
 pn:List (Addr×Obj)
 xe:Value→Shared→Prop
 ex9:Value→Option Addr→Hp→Prop:=fun _ _ _=>False
noncomputable def frs(l:List Env):List Addr:=l.filterMap (·.frame)
noncomputable abbrev Cx.fs(X:Cx):List Addr:=frs X.outer
noncomputable def Vis(sc:Scope)(x:Str):Prop:=sc.names.lookup x=some .local∨sc.names.lookup x=some .cell∨sc.names.lookup x=some .free
noncomputable def Loc(sc:Scope)(x:Str):Prop:=sc.names.lookup x=some .local∨sc.names.lookup x=some .cell
noncomputable def Look(env:Env)(h:Heap)(m:Str→Option Value)(x:Str)(u:Value):Prop :=
 (env.kindOf x=some .local∧m x=some u)∨((env.kindOf x=some .cell∨env.kindOf x=some .free)∧∃ c,env.cells.lookup x=some c∧h.IsCell c (some u))
structure Cx.Ok(X:Cx):Prop where
 mod:Mod X.K X.mg X.base
 kind:X.env.scope.kind = .function
 glob:X.env.globals=mainGlobals
 blt:X.env.builtins=builtinsNs
 above:X.s₀.heap.objs.size ≤ X.env.locals
 inj:∀ x y c,X.env.cells.lookup x=some c→X.env.cells.lookup y=some c→x=y
 has:∀ x,(X.env.kindOf x=some .cell∨X.env.kindOf x=some .free)→∃ c,X.env.cells.lookup x=some c
 cab:∀ x c,X.fn x=true→X.env.cells.lookup x=some c→X.s₀.heap.objs.size ≤ c
 hd:X.calm=true→X.A.handled=none
 frames:X.A.frames=some X.stack
 stk:X.stack=X.outer∨(X.stack=X.env :: X.outer∧X.env.frame=some X.env.locals)
 exf:∀ b ∈ X.ex,b ≠ X.env.locals∧∀ x c,X.env.cells.lookup x=some c→c ≠ b
 bs:∀ b o,X.base.get? b=some o→X.s₀.heap.get? b=some o∧X.H₀ b=none
 bsz:X.base.objs.size ≤ X.s₀.heap.objs.size
 noex:∀ b o,X.base.get? b=some o→b ∉ X.ex
 exfs:∀ b ∈ X.ex,b ∉ X.fs
 funs:X.s₀.heap.FunFrames X.base X.outer
 frf:∀ b ∈ X.fs,X.H₀ b=none
structure Inv(X:Cx)(pins:List (Addr×Obj))(σ:List (Option V))(H:Hp)(s:Shared):Prop where
 ok:X.Ok
 os:s.os=X.s₀.os
 bare:AllBare s.gens
 base:Un X.fs X.ex X.H₀ H X.s₀.heap s.heap
 loc:∃ m,s.heap.Ns X.env.locals m∧∀ (i:Nat) (x:Str) (v:V),X.N[i]?=some x→σ[i]?=some (some v)→Vis X.env.scope x→∃ u,RelV v u∧Look X.env s.heap m x u
 cell:∀ x c,X.env.cells.lookup x=some c→∃ v,s.heap.IsCell c v
 free:H X.env.locals=none
 freeC:∀ x c,X.env.cells.lookup x=some c→H c=none
 pin:∀ p ∈ X.pn ++ pins,s.heap.get? p.1=some p.2∧H p.1=none∧p.1 ≠ X.env.locals∧p.1 ∉ X.fs∧∀ v,p.2.data ≠ .cell v
 hok:HOk X.prog X.w H s.heap
 len:σ.length=X.N.length
section
variable {X:Cx} {pins:List (Addr×Obj)} {σ:List (Option V)} {H H':Hp} {s:Shared} {h':Heap}
theorem Cx.Ok.nofr(ok:X.Ok){b:Addr}{o:Obj}(e:X.base.get? b=some o):b ∉ X.fs:=fun hb=>by
 have:=(ok.funs.mem hb).1
 rw [e] at this;cases this
theorem Inv.bs(I:Inv X pins σ H s):∀ b o,X.base.get? b=some o→s.heap.get? b=some o∧H b=none:=fun b o e =>
 ⟨I.base.keep b o (I.ok.bs b o e).1 (I.ok.bs b o e).2 (I.ok.nofr e) (I.ok.noex b o e),I.base.free b o (I.ok.bs b o e).1 (I.ok.bs b o e).2 (I.ok.noex b o e)⟩
theorem Inv.bk(I:Inv X pins σ H s):∀ b o,X.base.get? b=some o→s.heap.get? b=some o:=fun b o e=>(I.bs b o e).1
theorem Inv.mod(I:Inv X pins σ H s):Mod X.K X.mg X.base:=I.ok.mod
theorem Inv.kIn(I:Inv X pins σ H s):X.K.In s.heap:=I.ok.mod.kin.keeps I.bk
theorem Inv.lt(I:Inv X pins σ H s):X.env.locals < s.heap.objs.size:=let ⟨_,hn,_⟩:=I.loc;hn.lt
theorem Inv.sz(I:Inv X pins σ H s):X.s₀.heap.objs.size ≤ s.heap.objs.size:=Nat.le_trans I.ok.above (Nat.le_of_lt I.lt)
theorem Inv.nofs(I:Inv X pins σ H s){a:Addr}(h:s.heap.objs.size ≤ a):a ∉ X.fs:=fun hb=>by
 obtain ⟨_,o,ho,_⟩:=I.ok.funs.mem hb
 exact absurd (Nat.lt_of_lt_of_le (Heap.lt_size ho) (Nat.le_trans I.sz h)) (Nat.lt_irrefl _)
theorem Inv.cne(I:Inv X pins σ H s):∀ x c,X.env.cells.lookup x=some c→c ≠ X.env.locals:=fun x c e z=>by
 obtain ⟨v,o,ho,hd⟩:=I.cell x c e
 obtain ⟨m,⟨o',es,ep,ho',hd',_⟩,_⟩:=I.loc
 rw [z,ho'] at ho;cases ho;rw [hd'] at hd;cases hd
theorem Inv.funs(I:Inv X pins σ H s):s.heap.FunFrames X.base X.outer:=by
 have all:∀ (l:List Env),(∀ b ∈ frs l,b ∈ X.fs)→X.s₀.heap.FunFrames X.base l→s.heap.FunFrames X.base l:=by
  intro l
  induction l with
  |nil=>intro _ _;trivial
  |cons env r ih =>
   intro hs hl
   obtain ⟨hk,⟨L,o,hf,hn,ho,hd⟩,hr⟩:=hl
   have hL:L ∈ X.fs:=hs L (by unfold frs;rw [List.filterMap_cons,hf];exact List.mem_cons_self)
   obtain ⟨sl,e⟩:=I.base.slot L o ho (I.ok.frf L hL) hL fun z=>I.ok.exfs L z hL
   exact ⟨hk,⟨L,_,hf,hn,e,hd⟩,ih (fun b hb=>hs b (by unfold frs;rw [List.filterMap_cons,hf];exact List.mem_cons_of_mem _ hb)) hr⟩
 exact all X.outer (fun _ hb=>hb) I.ok.funs
theorem Inv.stack(I:Inv X pins σ H s):s.heap.FunFrames X.base X.stack:=by
 rcases I.ok.stk with e | ⟨e,hf⟩
 ·rw [e];exact I.funs
 ·rw [e]
  obtain ⟨m,hn,_⟩:=I.loc
  refine .cons (by rw [I.ok.kind];decide) hf hn ?_ I.funs
  exact Heap.get?_none_of_le (Nat.le_trans I.ok.bsz I.ok.above)
theorem Inv.stkSub(I:Inv X pins σ H s):∀ b ∈ frs X.stack,b ∈ X.env.locals :: X.fs:=fun b hb=>by
 rcases I.ok.stk with e | ⟨e,hf⟩
 ·rw [e] at hb;exact List.mem_cons_of_mem _ hb
 ·rw [e] at hb
  unfold frs at hb
  rw [List.filterMap_cons,hf] at hb
  exact hb
theorem Inv.stkFree(I:Inv X pins σ H s):∀ b ∈ frs X.stack,H b=none:=fun b hb=>by
 rcases List.mem_cons.mp (I.stkSub b hb) with e | hb
 ·rw [e];exact I.free
 ·obtain ⟨_,o,ho,_⟩:=I.ok.funs.mem hb
  exact I.base.free b o ho (I.ok.frf b hb) fun z=>I.ok.exfs b z hb
theorem Inv.step{g':Array GenState}{t':Nat}{d':Drawn}{ch:List Addr}(I:Inv X pins σ H s)
  (hch:∀ b ∈ ch,(b ∈ X.ex∨X.s₀.heap.objs.size ≤ b)∧b ≠ X.env.locals∧(∀ x c,X.env.cells.lookup x=some c→c ≠ b)∧∀ p ∈ X.pn ++ pins,p.1 ≠ b)
  (keep:∀ b o,b ≠ X.env.locals→b ∉ X.fs→b ∉ ch→s.heap.get? b=some o→H b=none→h'.get? b=some o)
  (slot:∀ b o,b ≠ X.env.locals→b ∈ X.fs→b ∉ ch→s.heap.get? b=some o→H b=none→∃ sl,h'.get? b=some { o with slots:=sl }) (free:∀ b o,b ∉ ch→s.heap.get? b=some o→H b=none→H' b=none)
  (there:∀ b o,b ∉ ch→s.heap.get? b=some o→∃ o',h'.get? b=some o')
  (tups:∀ b xs,H b=some (.tup xs)→H' b=some (.tup xs)) (frzs:∀ b o u,H b=some (.frz o u)→H' b=some (.frz o u)) (tbls:∀ b ps,H b=some (.tbl ps)→∃ more,H' b=some (.tbl (ps ++ more)))
  (ns:∀ m,s.heap.Ns X.env.locals m→h'.Ns X.env.locals m) (hok:HOk X.prog X.w H' h') (hg:AllBare g') :
  Inv X pins σ H' { s with heap:=h',gens:=g',drawn:=d',toks:=t' }:=by
 have neL:∀ b o,X.s₀.heap.get? b=some o→b ≠ X.env.locals:=fun b o e=>Nat.ne_of_lt (Nat.lt_of_lt_of_le (Heap.lt_size e) I.ok.above)
 have neC:∀ b o,X.s₀.heap.get? b=some o→b ∉ X.ex→b ∉ ch:=fun b o e hx hb=>by
  rcases (hch b hb).1 with z | z
  ·exact hx z
  ·exact absurd (Nat.lt_of_lt_of_le (Heap.lt_size e) z) (Nat.lt_irrefl _)
 have cellK:∀ x c,X.env.cells.lookup x=some c→∀ v,s.heap.IsCell c v→h'.IsCell c v:=fun x c e v zz0=>by
  obtain ⟨o,ho,hd⟩:=zz0
  have nch:c ∉ ch:=fun z=>(hch c z).2.2.1 x c e rfl
  by_cases hc:c ∈ X.fs
  ·obtain ⟨sl,q⟩:=slot c o (I.cne x c e) hc nch ho (I.freeC x c e)
   exact ⟨_,q,hd⟩
  ·exact ⟨o,keep c o (I.cne x c e) hc nch ho (I.freeC x c e),hd⟩
 refine ⟨I.ok,I.os,hg,⟨fun b o e n hb hx=>?_,fun b o e n hb hx=>?_,fun b o e n hx=>?_,fun b o e hx=>?_,fun b xs e=>tups b xs (I.base.tups b xs e),fun b o xs e=>frzs b o xs (I.base.frzs b o xs e),fun b ps e=>?_⟩,?_,fun x c e=>?_,?_,fun x c e=>?_,fun p hp=>?_,hok,I.len⟩
 ·exact keep b o (neL b o e) hb (neC b o e hx) (I.base.keep b o e n hb hx) (I.base.free b o e n hx)
 ·obtain ⟨sl,e1⟩:=I.base.slot b o e n hb hx
  obtain ⟨sl',e2⟩:=slot b _ (neL b o e) hb (neC b o e hx) e1 (I.base.free b o e n hx)
  exact ⟨sl',e2⟩
 ·obtain ⟨o',e1⟩:=I.base.there b o e hx
  exact free b o' (neC b o e hx) e1 (I.base.free b o e n hx)
 ·obtain ⟨o',e1⟩:=I.base.there b o e hx
  exact there b o' (neC b o e hx) e1
 ·obtain ⟨m1,e1⟩:=I.base.tbls b ps e
  obtain ⟨m2,e2⟩:=tbls b _ e1
  exact ⟨m1 ++ m2,by rw [e2,Array.append_assoc]⟩
 ·obtain ⟨m,hn,hl⟩:=I.loc
  refine ⟨m,ns m hn,fun i x v e1 e2 e3=>?_⟩
  obtain ⟨u,r,l⟩:=hl i x v e1 e2 e3
  refine ⟨u,r,?_⟩
  rcases l with l | ⟨k,c,e,z⟩
  ·exact .inl l
  ·exact .inr ⟨k,c,e,cellK x c e _ z⟩
 ·obtain ⟨v,z⟩:=I.cell x c e
  exact ⟨v,cellK x c e v z⟩
 ·obtain ⟨m,⟨o,_,_,ho,_⟩,_⟩:=I.loc
  exact free _ o (fun z=>(hch _ z).2.1 rfl) ho I.free
 ·obtain ⟨v,o,ho,hd⟩:=I.cell x c e
  exact free c o (fun z=>(hch c z).2.2.1 x c e rfl) ho (I.freeC x c e)
 ·obtain ⟨e,n,ne,nf,d⟩:=I.pin p hp
  have nch:p.1 ∉ ch:=fun z=>(hch p.1 z).2.2.2 p hp rfl
  exact ⟨keep p.1 p.2 ne nf nch e n,free p.1 p.2 nch e n,ne,nf,d⟩
theorem Inv.un{t':Nat}(I:Inv X pins σ H s)(u:Un X.fs [] H H' s.heap h')(hok:HOk X.prog X.w H' h'):Inv X pins σ H' { s with heap:=h',toks:=t' }:=by
 obtain ⟨m,⟨o,es,ep,ho,r⟩,_⟩:=id I.loc
 obtain ⟨sl,hL⟩:=u.any ho I.free (by simp)
 exact I.step (g':=s.gens) (d':=s.drawn) (ch:=[]) (fun _ z=>nomatch z) (fun b o _ hb _ e n=>u.keep b o e n hb (by simp)) (fun b o _ hb _ e n=>u.slot b o e n hb (by simp)) (fun b o _ e n=>u.free b o e n (by simp)) (fun b o _ e=>u.there b o e (by simp)) u.tups u.frzs u.tbls (fun m' hm=>by
  obtain ⟨o',es',ep',ho',r'⟩:=hm
  rw [ho] at ho';cases ho'
  exact ⟨_,es',ep',hL,r'⟩) hok I.bare
theorem Inv.call{g':Array GenState}{t':Nat}{d':Drawn}{ch:List Addr}(I:Inv X pins σ H s)(u:Un (frs X.stack) ch H H' s.heap h')(hok:HOk X.prog X.w H' h')(hg:AllBare g')
  (hch:∀ b ∈ ch,(b ∈ X.ex∨X.s₀.heap.objs.size ≤ b)∧b ≠ X.env.locals∧(∀ x c,X.env.cells.lookup x=some c→c ≠ b)∧∀ p ∈ X.pn ++ pins,p.1 ≠ b) :
  Inv X pins σ H' { s with heap:=h',gens:=g',drawn:=d',toks:=t' }:=by
 obtain ⟨m,⟨o,es,ep,ho,r⟩,_⟩:=id I.loc
 obtain ⟨sl,hL⟩:=u.any ho I.free fun z=>(hch _ z).2.1 rfl
 exact I.step (ch:=ch) hch (fun b o hL hb hc e n=>u.keep b o e n (fun z=>(List.mem_cons.mp (I.stkSub b z)).elim hL hb) hc) (fun b o _ _ hc e n=>u.any e n hc) (fun b o hc e n=>u.free b o e n hc) (fun b o hc e=>u.there b o e hc) u.tups u.frzs u.tbls (fun m' hm=>by
  obtain ⟨o',es',ep',ho',r'⟩:=hm
  rw [ho] at ho';cases ho'
  exact ⟨_,es',ep',hL,r'⟩) hok hg
theorem Inv.turned{t':Nat}{it:Addr}(I:Inv X pins σ H s)(k:∀ b o,b ≠ it→s.heap.get? b=some o→h'.get? b=some o)(hn:H it=none)(hL:it ≠ X.env.locals)
  (h1:it ∈ X.ex∨X.s₀.heap.objs.size ≤ it) (h2:∀ x c,X.env.cells.lookup x=some c→c ≠ it) (h3:∀ p ∈ X.pn ++ pins,p.1 ≠ it):Inv X pins σ H { s with heap:=h',toks:=t' }:=by
 have nit:∀ b u,H b=some u→b ≠ it:=fun b u e z=>by rw [z,hn] at e;cases e
 refine I.step (g':=s.gens) (d':=s.drawn) (ch:=[it]) (fun b hb=>?_) (fun b o _ _ hc e _=>k b o (fun z=>hc (by simp [z])) e) (fun b o _ _ hc e _=>⟨o.slots,k b o (fun z=>hc (by simp [z])) e⟩) (fun _ _ _ _ n=>n)
  (fun b o hc e=>⟨o,k b o (fun z=>hc (by simp [z])) e⟩) (fun _ _ e=>e) (fun _ _ _ e=>e) (fun b ps e=>⟨#[],by rw [e];simp⟩) (fun m hm=>?_) (fun b u e=>?_) I.bare
 ·have e:b=it:=by simpa using hb
  subst e
  exact ⟨h1,hL,h2,h3⟩
 ·obtain ⟨o,es,ep,ho,r⟩:=hm
  exact ⟨o,es,ep,k _ o (Ne.symm hL) ho,r⟩
 ·refine (I.hok b u e).stay (fun c v hc q=>k c v ?_ q) (fun _ q=>q) fun _ _ q=>q
  rcases hc with z | z
  ·rw [z];exact nit b u e
  ·exact nit c _ z
theorem Inv.tok(I:Inv X pins σ H s)(t:Nat):Inv X pins σ H { s with toks:=t }:=I.un (h':=s.heap) (t':=t) Un.refl I.hok
theorem Inv.kept{t':Nat}(I:Inv X pins σ H s)(k:∀ b u,s.heap.get? b=some u→h'.get? b=some u):Inv X pins σ H { s with heap:=h',toks:=t' }:=I.un (Un.kept k) (I.hok.kept k)
theorem Inv.laid{a:Addr}{o:HO}{t':Nat}(I:Inv X pins σ H s)(k:∀ b u,s.heap.get? b=some u→h'.get? b=some u)(hp:s.heap.objs.size ≤ a)(new:ObjOk X.prog X.w (upd H a o) h' a o) :
  Inv X pins σ (upd H a o) { s with heap:=h',toks:=t' }:=I.un (Un.laid k hp (I.hok.fresh hp)) (I.hok.laid k hp new)
theorem Inv.write{x e:Addr}{o:HO}{t':Nat}(I:Inv X pins σ H s)(mu:Mut (H x))(he:e=x∨H e=some (.own x))(k:∀ b u,b ≠ e→s.heap.get? b=some u→h'.get? b=some u)(heo:∃ u,h'.get? e=some u)
  (new:ObjOk X.prog X.w (upd H x o) h' x o):Inv X pins σ (upd H x o) { s with heap:=h',toks:=t' }:=I.un (Un.write mu he k heo) (I.hok.write mu he k heo new)
theorem Inv.pins_of{pins':List (Addr×Obj)}(I:Inv X pins σ H s)(h:∀ p ∈ pins',s.heap.get? p.1=some p.2∧H p.1=none∧p.1 ≠ X.env.locals∧p.1 ∉ X.fs∧∀ v,p.2.data ≠ .cell v):Inv X pins' σ H s :=
 ⟨I.ok,I.os,I.bare,I.base,I.loc,I.cell,I.free,I.freeC,fun p hp=>(List.mem_append.mp hp).elim (fun z=>I.pin p (List.mem_append_left _ z)) (h p),I.hok,I.len⟩
theorem nodup_ix{N:List Str}(hN:N.Nodup){i j:Nat}{x:Str}(a:N[i]?=some x)(b:N[j]?=some x):i=j:=by
 obtain ⟨h1,e1⟩:=List.getElem?_eq_some_iff.mp a
 obtain ⟨h2,e2⟩:=List.getElem?_eq_some_iff.mp b
 exact (List.getElem_inj hN).mp (e1.trans e2.symm)
theorem store_ok2{M:Model}{A:Around}{E:Value→Shared→Prop}{i:Nat}{x:Str}{v:V}{u:Value}{Q:Unit→Shared→Prop}(I:Inv X pins σ H s)(hN:X.N.Nodup)(hi:X.N[i]?=some x)(hx:Loc X.env.scope x)(r:RelV v u)
  (h:∀ s',Inv X pins (σ.set i (some v)) H s'→(∃ a,Heap.SameBut a s.heap s'.heap∧(a=X.env.locals∨X.env.cells.lookup x=some a))→Q () s') (hf:X.fn x=true∨X.env.scope.names.lookup x=some .local:=by trivial):wpAny M A (storeName X.env x u) Q E s:=by
 obtain ⟨m,hn,hl⟩:=id I.loc
 have hcls:(X.env.scope.kind == .class || (X.env.scope.kind == .module && X.env.locals != X.env.globals))=false:=by rw [I.ok.kind];rfl
 have hiσ:i < σ.length:=by rw [I.len];exact (List.getElem?_eq_some_iff.mp hi).1
 have cne:=I.cne
 have tracked:∀ {a:Addr} {h':Heap},(∃ o,s.heap.get? a=some o∧H a=none)→Heap.SameBut a s.heap h'→HOk X.prog X.w H h':=fun {a h'} ha hs b ob e=>by
  obtain ⟨_,_,hfree⟩:=ha
  refine (I.hok b ob e).stay (fun c w' hc q=>(hs.2 c ?_).trans q) (fun _ q=>q) fun _ _ q=>q
  rintro rfl
  rcases hc with rfl | hc
  ·rw [hfree] at e;cases e
  ·rw [hfree] at hc;cases hc
 rcases hx with hk | hk
 ·refine wpAny_storeName_local hk hn (fun h' hn' hs=>?_) hcls
  obtain ⟨oL,_,_,hoL,_⟩:=id hn
  refine h _ ⟨I.ok,I.os,I.bare,⟨fun b o e n hb hx=>?_,fun b o e n hb hx=>?_,I.base.free,fun b o e hx=>?_,I.base.tups,I.base.frzs,I.base.tbls⟩,⟨_,hn',fun j y v' e1 e2 e3=>?_⟩,fun y c e=>?_,I.free,I.freeC,fun p hp=>?_,tracked ⟨oL,hoL,I.free⟩ hs,by simpa using I.len⟩ ⟨_,hs,.inl rfl⟩
  ·exact (hs.2 b (Nat.ne_of_lt (Nat.lt_of_lt_of_le (Heap.lt_size e) I.ok.above))).trans (I.base.keep b o e n hb hx)
  ·obtain ⟨sl,e1⟩:=I.base.slot b o e n hb hx
   exact ⟨sl,(hs.2 b (Nat.ne_of_lt (Nat.lt_of_lt_of_le (Heap.lt_size e) I.ok.above))).trans e1⟩
  ·obtain ⟨o',e1⟩:=I.base.there b o e hx
   exact ⟨o',(hs.2 b (Nat.ne_of_lt (Nat.lt_of_lt_of_le (Heap.lt_size e) I.ok.above))).trans e1⟩
  ·by_cases hj:j=i
   ·subst hj
    rw [hi] at e1;cases e1
    rw [List.getElem?_set_self hiσ] at e2
    cases e2
    exact ⟨u,r,.inl ⟨hk,by simp⟩⟩
   ·rw [List.getElem?_set_ne (Ne.symm hj)] at e2
    obtain ⟨u',r',q⟩:=hl j y v' e1 e2 e3
    refine ⟨u',r',?_⟩
    rcases q with ⟨k,e⟩ | ⟨k,c,e,z⟩
    ·refine .inl ⟨k,?_⟩
     have:y ≠ x:=fun e=>hj (nodup_ix hN e1 (e ▸ hi))
     simp [this,e]
    ·exact .inr ⟨k,c,e,z.sameBut hs (cne y c e)⟩
  ·obtain ⟨w',z⟩:=I.cell y c e
   exact ⟨w',z.sameBut hs (cne y c e)⟩
  ·obtain ⟨e,n,ne,nf,d⟩:=I.pin p hp
   exact ⟨(hs.2 p.1 ne).trans e,n,ne,nf,d⟩
 ·have hfn:X.fn x=true:=by
   rcases hf with z | z
   ·exact z
   ·rw [z] at hk;cases hk
  obtain ⟨c,hc⟩:=I.ok.has x (.inl hk)
  obtain ⟨w',z⟩:=I.cell x c hc
  refine wpAny_storeName_cell I.ok.kind hk hc z (fun h' hc' hs=>?_)
  obtain ⟨oc,hoc,hocd⟩:=id z
  refine h { s with heap:=h' } ⟨I.ok,I.os,I.bare,⟨fun b o e n hb hx=>?_,fun b o e n hb hx=>?_,I.base.free,fun b o e hx=>?_,I.base.tups,I.base.frzs,I.base.tbls⟩,⟨m,hn.sameBut hs (Ne.symm (cne x c hc)),fun j y v' e1 e2 e3=>?_⟩,fun y c' e=>?_,I.free,I.freeC,fun p hp=>?_,tracked ⟨oc,hoc,I.freeC x c hc⟩ hs,by simpa using I.len⟩ ⟨c,hs,.inr hc⟩
  ·exact (hs.2 b (Nat.ne_of_lt (Nat.lt_of_lt_of_le (Heap.lt_size e) (I.ok.cab x c hfn hc)))).trans (I.base.keep b o e n hb hx)
  ·obtain ⟨sl,e1⟩:=I.base.slot b o e n hb hx
   exact ⟨sl,(hs.2 b (Nat.ne_of_lt (Nat.lt_of_lt_of_le (Heap.lt_size e) (I.ok.cab x c hfn hc)))).trans e1⟩
  ·obtain ⟨o',e1⟩:=I.base.there b o e hx
   exact ⟨o',(hs.2 b (Nat.ne_of_lt (Nat.lt_of_lt_of_le (Heap.lt_size e) (I.ok.cab x c hfn hc)))).trans e1⟩
  ·by_cases hj:j=i
   ·subst hj
    rw [hi] at e1;cases e1
    rw [List.getElem?_set_self hiσ] at e2
    cases e2
    exact ⟨u,r,.inr ⟨.inl hk,c,hc,hc'⟩⟩
   ·rw [List.getElem?_set_ne (Ne.symm hj)] at e2
    obtain ⟨u',r',q⟩:=hl j y v' e1 e2 e3
    refine ⟨u',r',?_⟩
    rcases q with q | ⟨k,c',e,z'⟩
    ·exact .inl q
    ·refine .inr ⟨k,c',e,z'.sameBut hs ?_⟩
     rintro rfl
     exact hj (nodup_ix hN e1 (I.ok.inj _ _ _ e hc ▸ hi))
  ·by_cases hcc:c'=c
   ·subst hcc;exact ⟨_,hc'⟩
   ·obtain ⟨w2,z2⟩:=I.cell y c' e
    exact ⟨w2,z2.sameBut hs hcc⟩
  ·obtain ⟨e,n,ne,nf,d⟩:=I.pin p hp
   refine ⟨(hs.2 p.1 ?_).trans e,n,ne,nf,d⟩
   intro q
   rw [q,hoc] at e
   have q':oc=p.2:=Option.some.inj e
   exact d w' (by rw [← q'];exact hocd)
theorem store_ok{M:Model}{A:Around}{E:Value→Shared→Prop}{i:Nat}{x:Str}{v:V}{u:Value}{Q:Unit→Shared→Prop}(I:Inv X pins σ H s)(hN:X.N.Nodup)(hi:X.N[i]?=some x)(hx:Loc X.env.scope x)(r:RelV v u)
  (h:∀ s',Inv X pins (σ.set i (some v)) H s'→Q () s') (hf:X.fn x=true∨X.env.scope.names.lookup x=some .local:=by trivial):wpAny M A (storeName X.env x u) Q E s :=
 store_ok2 I hN hi hx r (fun s' I' _=>h s' I') hf
theorem Inv.call'{s':Shared}{ch:List Addr}(I:Inv X pins σ H s)(ho:s'.os=s.os)(u:Un (frs X.stack) ch H H' s.heap s'.heap)(hok:HOk X.prog X.w H' s'.heap)(hg:AllBare s'.gens)
  (hch:∀ b ∈ ch,(b ∈ X.ex∨X.s₀.heap.objs.size ≤ b)∧b ≠ X.env.locals∧(∀ x c,X.env.cells.lookup x=some c→c ≠ b)∧∀ p ∈ X.pn ++ pins,p.1 ≠ b):Inv X pins σ H' s':=by
 obtain ⟨h',g',d',t',o'⟩:=s'
 have e:o'=s.os:=ho
 subst e
 exact I.call (g':=g') (t':=t') (d':=d') u hok hg hch
end
noncomputable abbrev XK:=Value→Option Addr→Hp→Prop
noncomputable abbrev St:=List (Option V)
noncomputable abbrev VK:=V→Hp→Prop
noncomputable abbrev TE:=St→Hp→VK→Prop
noncomputable abbrev TT:=St→Hp→(Bool→Hp→Prop)→Prop
noncomputable abbrev TA:=St→Hp→(List V→Hp→Prop)→Prop
structure Ends where
 nx:St→Hp→Prop
 rt:VK
 bk:St→Hp→Prop:=fun _ _=>False
 ct:St→Hp→Prop:=fun _ _=>False
noncomputable abbrev TS:=Ends→St→Hp→Prop
noncomputable def EP(X:Cx)(pins:List (Addr×Obj))(σ:St)(Q:VK)(u:Value)(s':Shared):Prop:=∃ v H',Inv X pins σ H' s'∧RelV v u∧Q v H'
noncomputable def TP(X:Cx)(pins:List (Addr×Obj))(σ:St)(Q:Bool→Hp→Prop)(b:Bool)(s':Shared):Prop:=∃ H',Inv X pins σ H' s'∧Q b H'
noncomputable def AP(X:Cx)(pins:List (Addr×Obj))(σ:St)(Q:List V→Hp→Prop)(us:List Value)(s':Shared):Prop:=∃ vs H',Inv X pins σ H' s'∧Vals vs us∧Q vs H'
noncomputable def SP(X:Cx)(pins:List (Addr×Obj))(D:Ends)(f:Flow)(s':Shared):Prop :=
 match f with
 |.next=>∃ σ' H',Inv X pins σ' H' s'∧D.nx σ' H'
 |.brk=>∃ σ' H',Inv X pins σ' H' s'∧D.bk σ' H'
 |.cont=>∃ σ' H',Inv X pins σ' H' s'∧D.ct σ' H'
 |.ret u=>∃ v σ' H',Inv X pins σ' H' s'∧RelV v u∧D.rt v H'
noncomputable def PE(X:Cx)(e:Expr)(t:TE):Prop :=
 ∀ (pins:List (Addr×Obj)) (s:Shared) (σ:St) (H:Hp) (Q:VK),Inv X pins σ H s→t σ H Q→wpAny (model X.prog X.w) X.A (eval e X.env) (EP X pins σ Q) X.xe s
noncomputable def PT(X:Cx)(e:Expr)(t:TT):Prop :=
 ∀ (pins:List (Addr×Obj)) (s:Shared) (σ:St) (H:Hp) (Q:Bool→Hp→Prop),Inv X pins σ H s→t σ H Q→wpAny (model X.prog X.w) X.A (isTrue e X.env (eval e X.env)) (TP X pins σ Q) X.xe s
noncomputable def PW(X:Cx)(e:Expr)(t:TT):Prop :=
 ∀ (whole:Sem Value) (pins:List (Addr×Obj)) (s:Shared) (σ:St) (H:Hp) (Q:Bool→Hp→Prop),Inv X pins σ H s→t σ H Q→wpAny (model X.prog X.w) X.A (isTrue e X.env whole) (TP X pins σ Q) X.xe s
theorem PW.pt{X:Cx}{e:Expr}{t:TT}(h:PW X e t):PT X e t:=h _
noncomputable def PA(X:Cx)(es:List Expr)(t:TA):Prop :=
 ∀ (pos:Pos) (pins:List (Addr×Obj)) (s:Shared) (σ:St) (H:Hp) (Q:List V→Hp→Prop),Inv X pins σ H s→t σ H Q→wpAny (model X.prog X.w) X.A (spliced (backTo pos (starEach es X.env))) (AP X pins σ Q) X.xe s
noncomputable def PS(X:Cx)(st:Stmt)(t:TS):Prop :=
 ∀ (pins:List (Addr×Obj)) (s:Shared) (σ:St) (H:Hp) (D:Ends),Inv X pins σ H s→t D σ H→wpAny (model X.prog X.w) X.A (exec st X.env) (SP X pins D) X.xe s
noncomputable def PSs(X:Cx)(st:List Stmt)(t:TS):Prop :=
 ∀ (pins:List (Addr×Obj)) (s:Shared) (σ:St) (H:Hp) (D:Ends),Inv X pins σ H s→t D σ H→wpAny (model X.prog X.w) X.A (execs st X.env) (SP X pins D) X.xe s
theorem thn{α:Type}{t:Sem α}{Q Q':α→Shared→Prop}{M:Model}{A:Around}{E:Value→Shared→Prop}{s:Shared}(h:wpAny M A t Q E s)(hQ:∀ a s,Q a s→Q' a s):wpAny M A t Q' E s:=wpAny_mono h hQ fun _ _ x=>x
end L2
namespace L2
open PySem PySem.Spec PyProof.Rows
section
variable {X:Cx}
noncomputable def tVar(i:Nat):TE:=fun σ H Q=>∃ v,σ[i]?=some (some v)∧Q v H
noncomputable def tC(v:V):TE:=fun _ H Q=>Q v H
theorem pe_var{i:Nat}{x:Str}{pos:Pos}(hN:X.N[i]?=some x)(hv:Vis X.env.scope x)(hd:(x == ("__debug__":Str))=false:=by decide)(hcd:(x == ("__classdict__":Str))=false:=by decide):PE X (.Name x pos) (tVar i):=by
 intro pins s σ H Q I h
 obtain ⟨v,e,h⟩:=h
 obtain ⟨m,hn,hl⟩:=I.loc
 obtain ⟨u,r,l⟩:=hl i x v hN e hv
 have fin:EP X pins σ Q u s:=⟨v,H,I,r,h⟩
 rcases l with ⟨hk,hm⟩ | ⟨hk,c,hc,hcell⟩
 ·exact wpAny_Name (wpAny_loadName_local I.ok.kind hk hn hm fin) hd
 ·rcases hk with hk | hk
  ·exact wpAny_Name (wpAny_loadName_cell I.ok.kind hk hc hcell fin) hd
  ·exact wpAny_Name (wpAny_loadName_free I.ok.kind hk hc hcell fin hcd) hd
theorem pe_int{i j pos}:PE X (.Constant (.int i) j pos) (tC (.int i)):=fun _ _ _ H _ I h=>wpAny_Constant_int ⟨.int i,H,I.tok _,⟨_,rfl⟩,h⟩
theorem pe_bl{b j pos}:PE X (.Constant (.bool b) j pos) (tC (.bl b)):=fun _ _ _ H _ I h=>Constant_bool ⟨.bl b,H,I,rfl,h⟩
theorem pe_str{x j pos}:PE X (.Constant (.str x) j pos) (tC (.str x)):=fun _ _ _ H _ I h=>Calls.Constant_str ⟨.str x,H,I.tok _,⟨_,rfl⟩,h⟩
noncomputable def Gl(X:Cx)(x:Str):Prop:=X.env.kindOf x=some .globalImplicit
theorem ld_glob{E:Value→Shared→Prop}{pins:List (Addr×Obj)}{s:Shared}{σ:St}{H:Hp}{x:Str}{u:Value}{pos:Pos}{Q:Value→Shared→Prop}(I:Inv X pins σ H s)(hg:Gl X x)(hm:X.mg x=some u)(h:Q u s)
  (hd:(x == ("__debug__":Str))=false:=by decide):wpAny (model X.prog X.w) X.A (eval (.Name x pos) X.env) Q E s :=
 Calls.Name_function_global I.ok.kind hg (Calls.loadGlobal_global (by rw [I.ok.glob];exact I.mod.glob.keeps I.bk) hm h) hd
theorem ld_blt{E:Value→Shared→Prop}{pins:List (Addr×Obj)}{s:Shared}{σ:St}{H:Hp}{x:Str}{u:Value}{pos:Pos}{Q:Value→Shared→Prop}(I:Inv X pins σ H s)(hg:Gl X x)(hm:X.mg x=none)(hv:bootBuiltins x=some u)(h:Q u s)
  (hn:x ≠ "__name__":=by decide) (hd:(x == ("__debug__":Str))=false:=by decide):wpAny (model X.prog X.w) X.A (eval (.Name x pos) X.env) Q E s:=by
 obtain ⟨mb,h1,h2⟩:=I.mod.blt
 exact Calls.Name_function_global I.ok.kind hg (Calls.loadGlobal_builtin (by rw [I.ok.glob];exact I.mod.glob.keeps I.bk) hm (by rw [I.ok.blt];exact h1.keeps I.bk) ((h2 x hn).trans hv) h) hd
theorem pe_glob{x:Str}{v:V}{u:Value}{pos:Pos}(hg:Gl X x)(hm:X.mg x=some u)(r:RelV v u)(hd:(x == ("__debug__":Str))=false:=by decide):PE X (.Name x pos) (tC v) :=
 fun _ _ _ H _ I h=>ld_glob I hg hm ⟨v,H,I,r,h⟩ hd
theorem pe_bltn{x:Str}{v:V}{u:Value}{pos:Pos}(hg:Gl X x)(hm:X.mg x=none)(hv:bootBuiltins x=some u)(r:RelV v u)(hn:x ≠ "__name__":=by decide)(hd:(x == ("__debug__":Str))=false:=by decide):PE X (.Name x pos) (tC v) :=
 fun _ _ _ H _ I h=>ld_blt I hg hm hv ⟨v,H,I,r,h⟩ hn hd
variable {a b:Expr} {ta tb:TE} {pos:Pos}
variable {tA tB':TT} {rest:List Expr}
noncomputable def tAnd(t u:TT):TT:=fun σ H Q=>t σ H fun c H1=>if c=true then u σ H1 Q else Q false H1
noncomputable def tOr(t u:TT):TT:=fun σ H Q=>t σ H fun c H1=>if c=true then Q true H1 else u σ H1 Q
noncomputable def tNot(t:TT):TT:=fun σ H Q=>t σ H fun c H1=>Q (!c) H1
theorem pw_and1(ha:PT X a tA):PW X (.BoolOp .And [a] pos) tA:=by
 intro wh pins s σ H Q I h
 refine isTrue_and (thn (ha pins s σ H Q I h) fun c s1 e=>?_)
 cases c with
 |true=>exact isTrue_and_nil e
 |false=>exact e
theorem pw_or1(ha:PT X a tA):PW X (.BoolOp .Or [a] pos) tA:=by
 intro wh pins s σ H Q I h
 refine isTrue_or (thn (ha pins s σ H Q I h) fun c s1 e=>?_)
 cases c with
 |false=>exact isTrue_or_nil e
 |true=>exact e
theorem pw_and(ha:PT X a tA)(hb:PW X (.BoolOp .And (b :: rest) pos) tB'):PW X (.BoolOp .And (a :: b :: rest) pos) (tAnd tA tB'):=by
 intro wh pins s σ H Q I h
 refine isTrue_and (thn (ha pins s σ H _ I h) fun c s1 zz0=>?_)
 obtain ⟨H1,I1,q1⟩:=zz0
 cases c with
 |true=>exact hb wh pins s1 σ H1 Q I1 q1
 |false=>exact ⟨H1,I1,q1⟩
theorem pw_or(ha:PT X a tA)(hb:PW X (.BoolOp .Or (b :: rest) pos) tB'):PW X (.BoolOp .Or (a :: b :: rest) pos) (tOr tA tB'):=by
 intro wh pins s σ H Q I h
 refine isTrue_or (thn (ha pins s σ H _ I h) fun c s1 zz0=>?_)
 obtain ⟨H1,I1,q1⟩:=zz0
 cases c with
 |true=>exact ⟨H1,I1,q1⟩
 |false=>exact hb wh pins s1 σ H1 Q I1 q1
theorem pt_not(ha:PT X a tA):PT X (.UnaryOp .Not a pos) (tNot tA):=by
 intro pins s σ H Q I h
 exact isTrue_not (ha pins s σ H (fun c H1=>Q (!c) H1) I h)
noncomputable def tAndV(ta tb:TE):TE:=fun σ H Q=>ta σ H fun x H1=>∃ c,x = .bl c∧if c=true then tb σ H1 Q else Q (.bl false) H1
noncomputable def tOrV(ta tb:TE):TE:=fun σ H Q=>ta σ H fun x H1=>∃ c,x = .bl c∧if c=true then Q (.bl true) H1 else tb σ H1 Q
theorem pe_one{op}{t:TE}(h:PE X a t):PE X (.BoolOp op [a] pos) t:=fun pins s σ H Q I hw=>BoolOp_one (h pins s σ H Q I hw)
theorem pe_and(ha:PE X a ta)(hb:PE X (.BoolOp .And (b :: rest) pos) tb):PE X (.BoolOp .And (a :: b :: rest) pos) (tAndV ta tb):=by
 intro pins s σ H Q I h
 refine BoolOp_and (thn (ha pins s σ H _ I h) fun v s1 zz0=>?_)
 obtain ⟨x,H1,I1,r1,q1⟩:=zz0
 obtain ⟨c,rfl,q1⟩:=q1
 cases r1
 refine wpAny_truthy_bool ?_
 cases c with
 |true=>exact hb pins s1 σ H1 Q I1 q1
 |false=>exact ⟨.bl false,H1,I1,rfl,q1⟩
theorem pe_or(ha:PE X a ta)(hb:PE X (.BoolOp .Or (b :: rest) pos) tb):PE X (.BoolOp .Or (a :: b :: rest) pos) (tOrV ta tb):=by
 intro pins s σ H Q I h
 refine BoolOp_or (thn (ha pins s σ H _ I h) fun v s1 zz0=>?_)
 obtain ⟨x,H1,I1,r1,q1⟩:=zz0
 obtain ⟨c,rfl,q1⟩:=q1
 cases r1
 refine wpAny_truthy_bool ?_
 cases c with
 |false=>exact hb pins s1 σ H1 Q I1 q1
 |true=>exact ⟨.bl true,H1,I1,rfl,q1⟩
noncomputable def tIf(t:TT)(ta tb:TE):TE:=fun σ H Q=>t σ H fun c H1=>if c=true then ta σ H1 Q else tb σ H1 Q
theorem pe_ifExp{c:Expr}(hc:PT X c tA)(ha:PE X a ta)(hb:PE X b tb):PE X (.IfExp c a b pos) (tIf tA ta tb):=by
 intro pins s σ H Q I h
 refine wpAny_IfExp (thn (hc pins s σ H _ I h) fun d s1 zz0=>?_)
 obtain ⟨H1,I1,q1⟩:=zz0
 cases d with
 |true=>exact ha pins s1 σ H1 Q I1 q1
 |false=>exact hb pins s1 σ H1 Q I1 q1
end
end L2
namespace L2
open PySem PySem.Spec PyProof.Rows
noncomputable def SqL(K:PySem.W.Frag)(H:Hp)(a:Addr)(xs:List V):Prop :=
 Rd H a (.lst xs) ∨
  ∃ (o:Obj) (its:Array Value) (n:Nat),K.lookup a=some o∧o.cls = .type "list"∧o.dict=none∧o.data = .seq its n∧its.size ≤ sizeLine∧Vals xs its.toList
noncomputable def SqT(K:PySem.W.Frag)(H:Hp)(a:Addr)(xs:List V):Prop :=
 Rd H a (.tup xs) ∨
  ∃ (o:Obj) (its:Array Value) (n:Nat),K.lookup a=some o∧o.cls = .type "tuple"∧o.data = .seq its n∧its.size ≤ sizeLine∧Vals xs its.toList
noncomputable def absV:Value→Option V
 |.none=>some .non
 |.bool b=>some (.bl b)
 |.int i _=>some (.int i)
 |.str x _=>some (.str x)
 |.bytes b _=>some (.byt b)
 |.float b _=>some (.flt b)
 |.ref a=>some (.ref a)
 |.type n=>some (.ty n)
 |_=>none
theorem RelV.abs{x:V}{u:Value}(r:RelV x u):absV u=some x:=by
 cases x with
 |non=>cases r;rfl
 |bl _=>cases r;rfl
 |int _=>obtain ⟨t,rfl⟩:=r;rfl
 |str _=>obtain ⟨t,rfl⟩:=r;rfl
 |byt _=>obtain ⟨t,rfl⟩:=r;rfl
 |flt _=>obtain ⟨t,rfl⟩:=r;rfl
 |ref _=>cases r;rfl
 |ty _=>cases r;rfl
theorem RelV.inj{x y:V}{u:Value}(r:RelV x u)(q:RelV y u):x=y:=Option.some.inj (r.abs.symm.trans q.abs)
theorem Vals.inj{xs ys:List V}{us:List Value}(h:Vals xs us)(h':Vals ys us):xs=ys:=by
 induction h generalizing ys with
 |nil=>cases h';rfl
 |cons r _ ih =>
  cases h' with
  |cons r' t'=>rw [r.inj r',ih t']
section
variable {X:Cx} {pins:List (Addr×Obj)} {σ:St} {H:Hp} {s:Shared} {a:Addr} {xs ys:List V}
theorem SqL.of{K:PySem.W.Frag}(h:H a=some (.lst xs)):SqL K H a xs:=.inl (.inl h)
theorem Inv.list(I:Inv X pins σ H s)(h:SqL X.K H a xs):∃ its:List Value,Vals xs its∧PlainL s.heap a its.toArray∧xs.length ≤ sizeLine:=by
 rcases h with h | ⟨o,its,n,hk,hc,hd,hs,hz,r⟩
 ·obtain ⟨z,its,n,r,e⟩:=h.ok I.hok
  exact ⟨its,r,⟨_,n,e,rfl,rfl,rfl⟩,z⟩
 ·refine ⟨its.toList,r,⟨o,n,I.kIn a o hk,hc,hd,by simpa using hs⟩,?_⟩
  have e:=r.length
  simp only [Array.length_toList] at e
  omega
theorem Inv.tuple(I:Inv X pins σ H s)(h:SqT X.K H a xs):∃ its:List Value,Vals xs its∧IsTup s.heap a its.toArray∧xs.length ≤ sizeLine:=by
 rcases h with h | ⟨o,its,n,hk,hc,hs,hz,r⟩
 ·obtain ⟨z,its,r,p⟩:=h.ok I.hok
  exact ⟨its,r,p,z⟩
 ·refine ⟨its.toList,r,⟨o,I.kIn a o hk,hc,n,by simpa using hs⟩,?_⟩
  have e:=r.length
  simp only [Array.length_toList] at e
  omega
theorem Inv.list_inj(I:Inv X pins σ H s)(h:SqL X.K H a xs)(h':SqL X.K H a ys):xs=ys:=by
 obtain ⟨its,r,⟨o,n,e,_,_,d⟩,_⟩:=I.list h
 obtain ⟨its',r',⟨o',n',e',_,_,d'⟩,_⟩:=I.list h'
 rw [e] at e';cases e'
 rw [d] at d'
 injection d' with d1 _
 have:its=its':=by simpa using congrArg Array.toList d1
 subst this
 exact r.inj r'
theorem Inv.tuple_inj(I:Inv X pins σ H s)(h:SqT X.K H a xs)(h':SqT X.K H a ys):xs=ys:=by
 obtain ⟨its,r,⟨o,e,_,n,d⟩,_⟩:=I.tuple h
 obtain ⟨its',r',⟨o',e',_,n',d'⟩,_⟩:=I.tuple h'
 rw [e] at e';cases e'
 rw [d] at d'
 injection d' with d1 _
 have:its=its':=by simpa using congrArg Array.toList d1
 subst this
 exact r.inj r'
end
noncomputable abbrev Cx.wish(X:Cx)(E:Value→Shared→Prop):Cx:={ X with xe:=E }
noncomputable abbrev Cx.nox(X:Cx):Cx:=X.wish fun _ _=>False
theorem Cx.Ok.wish{X:Cx}(ok:X.Ok)(E:Value→Shared→Prop):(X.wish E).Ok :=
 ⟨ok.mod,ok.kind,ok.glob,ok.blt,ok.above,ok.inj,ok.has,ok.cab,ok.hd,ok.frames,ok.stk,ok.exf,ok.bs,ok.bsz,ok.noex,ok.exfs,ok.funs,ok.frf⟩
theorem Cx.Ok.unwish{X:Cx}{E:Value→Shared→Prop}(ok:(X.wish E).Ok):X.Ok :=
 ⟨ok.mod,ok.kind,ok.glob,ok.blt,ok.above,ok.inj,ok.has,ok.cab,ok.hd,ok.frames,ok.stk,ok.exf,ok.bs,ok.bsz,ok.noex,ok.exfs,ok.funs,ok.frf⟩
section
variable {X:Cx} {pins:List (Addr×Obj)} {σ:St} {H:Hp} {s:Shared} {E:Value→Shared→Prop}
theorem Inv.wish(I:Inv X pins σ H s)(E:Value→Shared→Prop):Inv (X.wish E) pins σ H s:=⟨I.ok.wish E,I.os,I.bare,I.base,I.loc,I.cell,I.free,I.freeC,I.pin,I.hok,I.len⟩
theorem Inv.unwish(I:Inv (X.wish E) pins σ H s):Inv X pins σ H s:=⟨I.ok.unwish,I.os,I.bare,I.base,I.loc,I.cell,I.free,I.freeC,I.pin,I.hok,I.len⟩
theorem SP.unwish{D:Ends}{f:Flow}{s':Shared}(h:SP (X.wish E) pins D f s'):SP X pins D f s':=by
 cases f with
 |next=>obtain ⟨σ',H',I,q⟩:=h;exact ⟨σ',H',I.unwish,q⟩
 |brk=>obtain ⟨σ',H',I,q⟩:=h;exact ⟨σ',H',I.unwish,q⟩
 |cont=>obtain ⟨σ',H',I,q⟩:=h;exact ⟨σ',H',I.unwish,q⟩
 |ret u=>obtain ⟨v,σ',H',I,r,q⟩:=h;exact ⟨v,σ',H',I.unwish,r,q⟩
theorem PSs.nox{st:List Stmt}{t:TS}(h:PSs X.nox st t):PSs X st t:=fun pins s σ H D I hw =>
 wpAny_mono (h pins s σ H D (I.wish _) hw) (fun _ _ q=>q.unwish) fun _ _ z=>False.elim z
end
section
variable {X:Cx} {st:Stmt} {rest:List Stmt} {t u:TS} {e:Expr} {te:TE} {pos:Pos}
noncomputable def tNext:TS:=fun D σ H=>D.nx σ H
noncomputable def tSeq(t u:TS):TS:=fun D σ H=>t { D with nx:=u D } σ H
theorem pss_nil:PSs X [] tNext:=fun _ _ σ H _ I h=>wpAny_execs_nil ⟨σ,H,I,h⟩
theorem pss_cons(h1:PS X st t)(h2:PSs X rest u):PSs X (st :: rest) (tSeq t u):=by
 intro pins s σ H D I h
 refine wpAny_execs_cons (thn (h1 pins s σ H { D with nx:=u D } I h) fun f s1 q=>?_)
 cases f with
 |next =>
  obtain ⟨σ',H',I',q⟩:=q
  exact h2 pins s1 σ' H' D I' q
 |ret v=>exact q
 |brk=>exact q
 |cont=>exact q
theorem pss_one(h1:PS X st t):PSs X [st] t:=by
 intro pins s σ H D I h
 refine wpAny_execs_cons (thn (h1 pins s σ H D I h) fun f s1 q=>?_)
 cases f with
 |next=>exact wpAny_execs_nil q
 |ret v=>exact q
 |brk=>exact q
 |cont=>exact q
theorem Inv.quiet{pins:List (Addr×Obj)}{σ:St}{H:Hp}{s:Shared}(I:Inv X pins σ H s):interactive X.env=false:=by simp [interactive,I.ok.kind]
noncomputable def tDrop(te:TE):TS:=fun D σ H=>te σ H fun _ H1=>D.nx σ H1
theorem ps_expr(he:PE X e te)(hs:swapsWith e none pos.line X.env=pure false:=by rfl):PS X (.Expr e pos) (tDrop te):=by
 intro pins s σ H D I h
 exact wpAny_Expr_any (thn (he pins s σ H _ I h) fun v s1 ⟨x,H1,I1,r1,q1⟩=>⟨σ,H1,I1,q1⟩) I.quiet hs
noncomputable def tRet(te:TE):TS:=fun D σ H=>te σ H D.rt
theorem ps_ret(he:PE X e te):PS X (.Return (some e) pos) (tRet te):=by
 intro pins s σ H D I h
 exact wpAny_Return_some (thn (he pins s σ H _ I h) fun v s1 ⟨x,H1,I1,r1,q1⟩=>⟨x,σ,H1,I1,r1,q1⟩)
noncomputable def tIfS(c:TT)(t u:TS):TS:=fun D σ H=>c σ H fun b H1=>if b=true then t D σ H1 else u D σ H1
theorem ps_if{c:Expr}{a b:List Stmt}{tc:TT}(hc:PT X c tc)(ha:PSs X a t)(hb:PSs X b u):PS X (.If c a b pos) (tIfS tc t u):=by
 intro pins s σ H D I h
 refine wpAny_If (thn (hc pins s σ H _ I h) fun d s1 zz0=>?_)
 obtain ⟨H1,I1,q1⟩:=zz0
 cases d with
 |true=>exact ha pins s1 σ H1 D I1 q1
 |false=>exact hb pins s1 σ H1 D I1 q1
noncomputable def tNever:TS:=fun _ _ _=>False
theorem ps_never:PS X st tNever:=fun _ _ _ _ _ _ h=>h.elim
end
noncomputable abbrev TG:=V→St→Hp→(St→Hp→Prop)→Prop
noncomputable abbrev TGs:=List V→St→Hp→(St→Hp→Prop)→Prop
noncomputable def PG(X:Cx)(target:Expr)(t:TG):Prop :=
 ∀ (pins:List (Addr×Obj)) (s:Shared) (σ:St) (H:Hp) (v:V) (u:Value) (Q:St→Hp→Prop),Inv X pins σ H s→RelV v u→t v σ H Q →
  wpAny (model X.prog X.w) X.A (assign target X.env u) (fun _ s'=>∃ σ' H',Inv X pins σ' H' s'∧Q σ' H') X.xe s
noncomputable def PGs(X:Cx)(ts:List Expr)(t:TGs):Prop :=
 ∀ (pins:List (Addr×Obj)) (s:Shared) (σ:St) (H:Hp) (vs:List V) (us:List Value) (Q:St→Hp→Prop),Inv X pins σ H s→Vals vs us→t vs σ H Q →
  wpAny (model X.prog X.w) X.A (assignInOrder ((assignEach ts X.env).map (·.2)) us) (fun _ s'=>∃ σ' H',Inv X pins σ' H' s'∧Q σ' H') X.xe s
noncomputable abbrev TSet:=V→V→V→Hp→(Hp→Prop)→Prop
noncomputable def PSet(X:Cx)(t:TSet):Prop :=
 ∀ (pins:List (Addr×Obj)) (s:Shared) (σ:St) (H:Hp) (o i v:V) (ov iv u:Value) (Q:Hp→Prop),Inv X pins σ H s→RelV o ov→RelV i iv→RelV v u→t o i v H Q →
  wpAny (model X.prog X.w) X.A (setItem ov iv u) (fun _ s'=>∃ H',Inv X pins σ H' s'∧Q H') X.xe s
noncomputable abbrev TIp:=V→V→Hp→VK→Prop
noncomputable def PIp(X:Cx)(op:Operator)(t:TIp):Prop :=
 ∀ (pins:List (Addr×Obj)) (s:Shared) (σ:St) (H:Hp) (x y:V) (v u:Value) (Q:VK),Inv X pins σ H s→RelV x v→RelV y u→t x y H Q →
  wpAny (model X.prog X.w) X.A (inplaceOp op v u) (EP X pins σ Q) X.xe s
section
variable {X:Cx} {pos:Pos}
noncomputable def gName(i:Nat):TG:=fun v σ H Q=>Q (σ.set i (some v)) H
theorem pg_name{i:Nat}{x:Str}(hN:X.N.Nodup)(hi:X.N[i]?=some x)(hx:Loc X.env.scope x)(hf:X.fn x=true∨X.env.scope.names.lookup x=some .local:=by trivial):PG X (.Name x pos) (gName i):=by
 intro pins s σ H v u Q I r h
 exact wpAny_assign_Name (store_ok I hN hi hx r (fun s' I'=>⟨_,H,I',h⟩) hf)
noncomputable def gNil:TGs:=fun vs σ H Q=>vs=[]∧Q σ H
noncomputable def gCons(t:TG)(u:TGs):TGs:=fun vs σ H Q=>∃ v r,vs=v :: r∧t v σ H fun σ' H'=>u r σ' H' Q
theorem pgs_nil:PGs X [] gNil:=by
 intro pins s σ H vs us Q I r h
 obtain ⟨e,h⟩:=h
 subst e
 cases r
 exact assignInOrder_nil ⟨σ,H,I,h⟩
theorem pgs_cons{e:Expr}{es:List Expr}{t:TG}{u:TGs}(h1:PG X e t)(h2:PGs X es u)
  (hs:(assignEach (e :: es) X.env).map (·.2)=assign e X.env :: (assignEach es X.env).map (·.2):=by rfl):PGs X (e :: es) (gCons t u):=by
 intro pins s σ H vs us Q I r h
 obtain ⟨v,vr,e1,h⟩:=h
 subst e1
 cases r with
 |cons r rr =>
  rw [hs]
  refine assignInOrder_cons (thn (h1 pins s σ H _ _ _ I r h) fun _ s1 zz0=>?_)
  obtain ⟨σ1,H1,I1,q1⟩:=zz0
  exact h2 pins s1 σ1 H1 _ _ Q I1 rr q1
noncomputable def gTup(K:PySem.W.Frag)(n:Nat)(t:TGs):TG:=fun v σ H Q=>∃ a xs,v = .ref a∧SqT K H a xs∧xs.length=n∧t xs σ H Q
theorem pg_tup{es:List Expr}{k:Nat}{t:TGs}{n:Nat}(hc:X.calm=true)(h:PGs X es t)
  (hn:(assignEach es X.env).length=n:=by rfl) (hst:(assignEach es X.env).findIdx? (·.1)=none:=by rfl):PG X (.Tuple es k pos) (gTup X.K n t):=by
 intro pins s σ H v u Q I r hw
 obtain ⟨a,xs,e1,hq,hl,hw⟩:=hw
 subst e1
 cases r
 obtain ⟨its,rv,ht,hz⟩:=I.tuple hq
 refine assign_Tuple_tuple (I.ok.hd hc) ht (by simp [hn,← hl,rv.length]) hst fun h' hx=>?_
 have I1:Inv X pins σ H { s with heap:=h' }:=I.kept (t':=s.toks) fun b o e=>hx b o (Nat.ne_of_lt (Heap.lt_size e)) e
 exact h pins _ σ H xs _ Q I1 (by simpa using rv) hw
noncomputable def tAsg(te:TE)(g:TG):TS:=fun D σ H=>te σ H fun x H1=>g x σ H1 D.nx
theorem ps_set{i:Nat}{x:Str}{e:Expr}{te:TE}{pos':Pos}(hN:X.N.Nodup)(hi:X.N[i]?=some x)(hx:Loc X.env.scope x)(he:PE X e te)(hs:swapsWith e (some (.Name x pos')) pos.line X.env=pure false:=by rfl)(hf:X.fn x=true∨X.env.scope.names.lookup x=some .local:=by trivial) :
  PS X (.Assign [.Name x pos'] e pos) (tAsg te (gName i)):=by
 intro pins s σ H D I h
 refine wpAny_Assign_Name (thn (he pins s σ H _ I h) fun v s1 zz0=>?_) hs
 obtain ⟨y,H1,I1,r1,q1⟩:=zz0
 exact store_ok I1 hN hi hx r1 (fun s2 I2=>⟨_,H1,I2,q1⟩) hf
noncomputable def tAug(i:Nat)(te:TE)(ti:TIp):TS:=fun D σ H=>∃ x,σ[i]?=some (some x)∧te σ H fun y H1=>ti x y H1 fun z H2=>D.nx (σ.set i (some z)) H2
theorem ps_aug{i:Nat}{x:Str}{e:Expr}{te:TE}{op:Operator}{ti:TIp}{pos':Pos}(hN:X.N.Nodup)(hi:X.N[i]?=some x)(hx:Loc X.env.scope x)(he:PE X e te)(ho:PIp X op ti)(hf:X.fn x=true∨X.env.scope.names.lookup x=some .local:=by trivial) :
  PS X (.AugAssign (.Name x pos') op e pos) (tAug i te ti):=by
 intro pins s σ H D I h
 obtain ⟨v,e1,h⟩:=h
 obtain ⟨m,hn,hl⟩:=I.loc
 have vis:Vis X.env.scope x:=by rcases hx with k | k;exact .inl k;exact .inr (.inl k)
 obtain ⟨u,r,l⟩:=hl i x v hi e1 vis
 refine wpAny_AugAssign_Name ?_
 have go:wpAny (model X.prog X.w) X.A (eval e X.env) (fun w s₂=>wpAny (model X.prog X.w) X.A (inplaceOp op u w) (fun r s₃=>wpAny (model X.prog X.w) X.A (storeName X.env x r) (fun _=>SP X pins D .next) X.xe s₃) X.xe s₂) X.xe s:=by
  refine thn (he pins s σ H _ I h) fun w s1 zz0=>?_
  obtain ⟨y,H1,I1,r1,q1⟩:=zz0
  refine thn (ho pins s1 σ H1 v y u w _ I1 r r1 q1) fun z s2 zz0=>?_
  obtain ⟨zv,H2,I2,r2,q2⟩:=zz0
  exact store_ok I2 hN hi hx r2 (fun s3 I3=>⟨_,H2,I3,q2⟩) hf
 rcases l with ⟨hk,hm⟩ | ⟨hk,c,hc,hcell⟩
 ·exact wpAny_loadName_local I.ok.kind hk hn hm go
 ·rcases hk with hk | hk
  ·exact wpAny_loadName_cell I.ok.kind hk hc hcell go
  ·rcases hx with k | k
   ·have:X.env.scope.names.lookup x=some .free:=hk
    rw [k] at this;cases this
   ·have:X.env.scope.names.lookup x=some .free:=hk
    rw [k] at this;cases this
noncomputable def tAugS(to ti te:TE)(tget:V→V→Hp→VK→Prop)(tip:TIp)(tset:TSet):TS:=fun D σ H=>to σ H fun o H1=>ti σ H1 fun i H2=>tget o i H2 fun x H3=>te σ H3 fun y H4=>tip x y H4 fun z H5=>tset o i z H5 fun H6=>D.nx σ H6
noncomputable def PGet(X:Cx)(t:V→V→Hp→VK→Prop):Prop :=
 ∀ (pins:List (Addr×Obj)) (s:Shared) (σ:St) (H:Hp) (o i:V) (ov iv:Value) (Q:VK),Inv X pins σ H s→RelV o ov→RelV i iv→t o i H Q →
  wpAny (model X.prog X.w) X.A (getItem ov iv) (EP X pins σ Q) X.xe s
theorem ps_augS{o i e:Expr}{to ti te:TE}{tget:V→V→Hp→VK→Prop}{tip:TIp}{tset:TSet}{op:Operator}{tpos:Pos}(ho:PE X o to)(hi:PE X i ti)(hg:PGet X tget)(he:PE X e te)(hp:PIp X op tip)(hs:PSet X tset)
  (ha:∀ ov iv new,augStore i ov iv new=(do holding [new,ov,iv] (setItem ov iv new);release [new,ov,iv] [];pure .next):=by intros;rfl):PS X (.AugAssign (.Subscript o i tpos) op e pos) (tAugS to ti te tget tip tset):=by
 intro pins s σ H D I h
 refine wpAny_AugAssign_SubscriptAny (thn (ho pins s σ H _ I h) fun ov s1 ⟨x1,H1,I1,r1,q1⟩=>?_) ha
 refine thn (hi pins s1 σ H1 _ I1 q1) fun iv s2 zz0=>?_
 obtain ⟨x2,H2,I2,r2,q2⟩:=zz0
 refine thn (hg pins s2 σ H2 x1 x2 ov iv _ I2 r1 r2 q2) fun old s3 zz0=>?_
 obtain ⟨x3,H3,I3,r3,q3⟩:=zz0
 refine thn (he pins s3 σ H3 _ I3 q3) fun v s4 zz0=>?_
 obtain ⟨x4,H4,I4,r4,q4⟩:=zz0
 refine thn (hp pins s4 σ H4 x3 x4 old v _ I4 r3 r4 q4) fun new s5 zz0=>?_
 obtain ⟨x5,H5,I5,r5,q5⟩:=zz0
 exact thn (hs pins s5 σ H5 x1 x2 x5 ov iv new _ I5 r1 r2 r5 q5) fun _ s6 ⟨H6,I6,q6⟩=>⟨σ,H6,I6,q6⟩
end
section
variable {X:Cx} {pos:Pos}
noncomputable def tWhile(c:TT)(tb:TS):TS:=fun D σ H=>∃ W:Nat→St→Hp→Prop,(∃ m,W m σ H)∧∀ m σ H,W m σ H →
 c σ H fun b H1=>if b=true then ∃ N:St→Hp→Prop,(∀ σ' H',N σ' H'→∃ m',m' < m∧W m' σ' H')∧tb { D with nx:=N,ct:=N,bk:=D.nx } σ H1 else D.nx σ H1
theorem ps_while{c:Expr}{body:List Stmt}{tc:TT}{tb:TS}(hp:PassesOwn (model X.prog X.w) X.A X.env X.xe)(hc:PT X c tc)(hb:PSs X body tb):PS X (.While c body [] pos) (tWhile tc tb):=by
 intro pins s σ H D I h
 obtain ⟨W,⟨m0,w0⟩,turn⟩:=h
 refine wpAny_While (codeAny_whileLoop (fun n s'=>∃ σ' H',Inv X pins σ' H' s'∧W n σ' H') ?_ m0 ⟨σ,H,I,w0⟩)
 rintro n s1 ⟨σ1,H1,I1,w1⟩
 refine wpAny_passesOwn hp (thn (hc pins s1 σ1 H1 _ I1 (turn n σ1 H1 w1)) fun b s2 zz0=>?_)
 obtain ⟨H2,I2,q2⟩:=zz0
 cases b with
 |true =>
  obtain ⟨N,hN,q2⟩:=q2
  rw [if_pos rfl]
  refine wpAny_passesOwn hp (thn (hb pins s2 σ1 H2 _ I2 q2) fun f s3 q3=>?_)
  cases f with
  |next =>
   obtain ⟨σ3,H3,I3,n3⟩:=q3
   obtain ⟨m',hm,w3⟩:=hN σ3 H3 n3
   exact ⟨m',hm,σ3,H3,I3,w3⟩
  |cont =>
   obtain ⟨σ3,H3,I3,n3⟩:=q3
   obtain ⟨m',hm,w3⟩:=hN σ3 H3 n3
   exact ⟨m',hm,σ3,H3,I3,w3⟩
  |brk=>exact q3
  |ret v=>exact q3
 |false =>
  rw [if_neg Bool.false_ne_true]
  exact wpAny_execs_nil ⟨σ1,H2,I2,q2⟩
end
structure It where
 go:Nat→Hp→Prop
 yld:Nat→Hp→V→Hp→Prop
 stop:Nat→Hp→Prop
noncomputable def FpOk(X:Cx)(pins:List (Addr×Obj))(H:Hp)(b:Addr):Prop :=
 H b=none∧b ≠ X.env.locals∧b ∉ X.fs∧(b ∈ X.ex∨X.s₀.heap.objs.size ≤ b)∧(∀ x c,X.env.cells.lookup x=some c→c ≠ b)∧∀ p ∈ X.pn ++ pins,p.1 ≠ b
theorem Inv.fpOk{X:Cx}{pins:List (Addr×Obj)}{σ:St}{H H':Hp}{s:Shared}{b:Addr}(I:Inv X pins σ H s)(hb:s.heap.objs.size ≤ b)(hn:H' b=none):FpOk X pins H' b:=by
 refine ⟨hn,Nat.ne_of_gt (Nat.lt_of_lt_of_le I.lt hb),I.nofs hb,.inr (Nat.le_trans I.sz hb),fun x c e z=>?_,fun p hp z=>?_⟩
 ·obtain ⟨v,q⟩:=I.cell x c e
  exact absurd (Nat.lt_of_lt_of_le q.lt (by rw [z];exact hb)) (Nat.lt_irrefl _)
 ·exact absurd (Nat.lt_of_lt_of_le (Heap.lt_size (I.pin p hp).1) (by rw [z];exact hb)) (Nat.lt_irrefl _)
structure Turn(P:Program)(w:World)(K:PySem.W.Frag)(tg:Expr)(J:It)(fp:List Addr)(it:Addr)(tn:Nat→Heap→Prop):Prop where
 mem:it ∈ fp
 obj:∀ i h,tn i h→∀ b ∈ fp,∃ o,h.get? b=some o∧∀ v,o.data ≠ .cell v
 keep:∀ i h h',tn i h→(∀ b ∈ fp,∀ o,h.get? b=some o→h'.get? b=some o)→tn i h'
 item:∀ (X:Cx),X.prog=P→X.w=w→X.K=K→X.calm=true→∀ (i:Nat) (pins:List (Addr×Obj)) (s:Shared) (σ:St) (H:Hp) (E:Value→Shared→Prop),Inv X pins σ H s→(∀ b ∈ fp,FpOk X pins H b)→tn i s.heap→J.go i H →
  wpAny (model P w) X.A (pyNext (.ref it)) (fun r s1=>∃ u,r=some u ∧
   wpAny (model P w) X.A (letOwnedTupleGo tg (.ref it) u) (fun _ s2=>∃ x H',Inv X pins σ H' s2∧RelV x u∧J.yld i H x H'∧tn (i + 1) s2.heap∧∀ b ∈ fp,H' b=none) E s1) E s
 done:∀ (X:Cx),X.prog=P→X.w=w→X.K=K→X.calm=true→∀ (i:Nat) (pins:List (Addr×Obj)) (s:Shared) (σ:St) (H:Hp) (E:Value→Shared→Prop),Inv X pins σ H s→(∀ b ∈ fp,FpOk X pins H b)→tn i s.heap→J.stop i H →
  wpAny (model P w) X.A (pyNext (.ref it)) (fun r s1=>r=none∧Inv X pins σ H s1) E s
 self:∀ (A:Around) (i:Nat) (s:Shared) (Q:Value→Shared→Prop) (E:Value→Shared→Prop),tn i s.heap→Q (.ref it) s→wpAny (model P w) A (pyIter (.ref it)) Q E s
noncomputable abbrev TI:=St→Hp→(It→Hp→Prop)→Prop
noncomputable def PIE(X:Cx)(pins:List (Addr×Obj))(σ:St)(tg:Expr)(R:It→Hp→Prop)(itv:Value)(s2:Shared):Prop :=
 ∃ (it:Addr) (fp:List Addr) (tn:Nat→Heap→Prop) (J:It) (H':Hp),itv = .ref it∧Inv X pins σ H' s2∧Turn X.prog X.w X.K tg J fp it tn∧tn 0 s2.heap∧(∀ b ∈ fp,FpOk X pins H' b)∧R J H'
noncomputable def PI(X:Cx)(tg iter:Expr)(wi:TI):Prop :=
 ∀ (pins:List (Addr×Obj)) (s:Shared) (σ:St) (H:Hp) (R:It→Hp→Prop),Inv X pins σ H s→wi σ H R →
  wpAny (model X.prog X.w) X.A (eval iter X.env) (fun v s1=>wpAny (model X.prog X.w) X.A (pyIter v) (PIE X pins σ tg R) X.xe s1) X.xe s
theorem go_of{M:Model}{A:Around}{E:Value→Shared→Prop}{s:Shared}{tg:Expr}{it:Addr}{u:Value}{o:Obj}{n:String}{vs:Array Value}{Q:Unit→Shared→Prop}(ho:s.heap.get? it=some o)(hc:o.cls = .type n)(hd:o.data = .fields vs)
  (hn:["enumerate","zip","dict_itemiterator","dict_reverseitemiterator","odict_iterator","itertools.zip_longest","itertools.pairwise"].contains n=false) (hQ:Q () s):wpAny M A (letOwnedTupleGo tg (.ref it) u) Q E s:=by
 unfold letOwnedTupleGo
 cases tg <;> first
  |exact wpAny_pure hQ
  |(cases u <;> first
    |exact wpAny_pure hQ
    |(refine wpAny_bind (wpAny_load ho ?_)
      rw [hc,hd]
      show wpAny M A (if (["enumerate","zip","dict_itemiterator","dict_reverseitemiterator","odict_iterator","itertools.zip_longest","itertools.pairwise"].contains n && vs[0]? == some (rawInt _))=true then _ else _) Q E s
      rw [if_neg (by intro h;rw [hn,Bool.false_and] at h;cases h)]
      exact wpAny_pure hQ))
noncomputable def Itl(K:PySem.W.Frag)(a:Addr):It :=
 ⟨fun i H=>∃ xs x,SqL K H a xs∧xs[i]?=some x,fun i H x H'=>H'=H∧∀ xs,SqL K H a xs→xs[i]?=some x,fun i H=>∃ xs,SqL K H a xs∧xs.length ≤ i⟩
noncomputable def Itt(K:PySem.W.Frag)(a:Addr):It :=
 ⟨fun i H=>∃ xs x,SqT K H a xs∧xs[i]?=some x,fun i H x H'=>H'=H∧∀ xs,SqT K H a xs→xs[i]?=some x,fun i H=>∃ xs,SqT K H a xs∧xs.length ≤ i⟩
noncomputable def Itr(lo:Int)(n:Nat):It:=⟨fun i _=>i < n,fun i H x H'=>H'=H∧x = .int (lo + i),fun i _=>n ≤ i⟩
theorem turn_list{P:Program}{w:World}{K:PySem.W.Frag}{tg:Expr}(a it:Addr):Turn P w K tg (Itl K a) [it] it (fun i h=>h.IsListIter it a i) where
 mem:=by simp
 obj:=fun i h st b hb=>by
  have e:b=it:=by simpa using hb
  subst e
  obtain ⟨o,e,c,d⟩:=st
  exact ⟨o,e,fun v z=>by rw [d] at z;cases z⟩
 keep:=fun i h h' st k=>st.at fun o e=>k it (by simp) o e
 item:=by
  intro X hP hw hK hc i pins s σ H E I hf st hg
  subst hP hw hK
  obtain ⟨xs,x,hq,hx⟩:=hg
  obtain ⟨its,rv,p,hz⟩:=I.list hq
  obtain ⟨u,hu,ru⟩:=rv.get hx
  obtain ⟨f0,f1,f2,f3,f4,f5⟩:=hf it (by simp)
  refine wpAny_pyNext_list_item st p.isList (x:=u) (by simpa using hu) fun h' st' sb=>?_
  have I1:Inv X pins σ H { s with heap:=h' }:=I.turned (t':=s.toks) (fun b o hb e=>(sb.2 b hb).trans e) f0 f1 f3 f4 f5
  obtain ⟨o,e,c,d⟩:=id st'
  exact ⟨u,rfl,go_of (s:={ s with heap:=h' }) e c d (by decide) ⟨x,H,I1,ru,⟨rfl,fun ys hy=>by rw [I.list_inj hy hq];exact hx⟩,st',fun b hb=>(hf b hb).1⟩⟩
 done:=by
  intro X hP hw hK hc i pins s σ H E I hf st hg
  subst hP hw hK
  obtain ⟨xs,hq,hx⟩:=hg
  obtain ⟨its,rv,p,hz⟩:=I.list hq
  obtain ⟨f0,f1,f2,f3,f4,f5⟩:=hf it (by simp)
  have hl:=rv.length
  exact wpAny_pyNext_list_end (I.ok.hd hc) st p.isList (by simp;omega) fun h' eb=>⟨rfl,I.turned (t':=s.toks) (fun b o hb e=>eb b o hb e) f0 f1 f3 f4 f5⟩
 self:=fun _ _ _ _ _ st h=>wpAny_pyIter_listiter st h
theorem turn_tuple{P:Program}{w:World}{K:PySem.W.Frag}{tg:Expr}(a it:Addr):Turn P w K tg (Itt K a) [it] it (fun i h=>h.IsTupleIter it a i) where
 mem:=by simp
 obj:=fun i h st b hb=>by
  have e:b=it:=by simpa using hb
  subst e
  obtain ⟨o,e,c,d⟩:=st
  exact ⟨o,e,fun v z=>by rw [d] at z;cases z⟩
 keep:=fun i h h' st k=>st.at fun o e=>k it (by simp) o e
 item:=by
  intro X hP hw hK hc i pins s σ H E I hf st hg
  subst hP hw hK
  obtain ⟨xs,x,hq,hx⟩:=hg
  obtain ⟨its,rv,p,hz⟩:=I.tuple hq
  obtain ⟨u,hu,ru⟩:=rv.get hx
  obtain ⟨f0,f1,f2,f3,f4,f5⟩:=hf it (by simp)
  refine wpAny_pyNext_tuple_item st (show s.heap.IsTuple a its.toArray from p) (x:=u) (by simpa using hu) fun h' st' sb=>?_
  have I1:Inv X pins σ H { s with heap:=h' }:=I.turned (t':=s.toks) (fun b o hb e=>(sb.2 b hb).trans e) f0 f1 f3 f4 f5
  obtain ⟨o,e,c,d⟩:=id st'
  exact ⟨u,rfl,go_of (s:={ s with heap:=h' }) e c d (by decide) ⟨x,H,I1,ru,⟨rfl,fun ys hy=>by rw [I.tuple_inj hy hq];exact hx⟩,st',fun b hb=>(hf b hb).1⟩⟩
 done:=by
  intro X hP hw hK hc i pins s σ H E I hf st hg
  subst hP hw hK
  obtain ⟨xs,hq,hx⟩:=hg
  obtain ⟨its,rv,p,hz⟩:=I.tuple hq
  obtain ⟨f0,f1,f2,f3,f4,f5⟩:=hf it (by simp)
  have hl:=rv.length
  exact wpAny_pyNext_tuple_end (I.ok.hd hc) st (show s.heap.IsTuple a its.toArray from p) (by simp;omega) fun h' eb=>⟨rfl,I.turned (t':=s.toks) (fun b o hb e=>eb b o hb e) f0 f1 f3 f4 f5⟩
 self:=fun _ _ _ _ _ st h=>wpAny_pyIter_tupleiter st h
theorem turn_range{P:Program}{w:World}{K:PySem.W.Frag}{tg:Expr}(it:Addr)(lo:Int)(n:Nat):Turn P w K tg (Itr lo n) [it] it (fun i h=>IsRangeIter h it (lo + (i:Nat) * 1) ((n:Int) - (i:Nat)) 1) where
 mem:=by simp
 obj:=fun i h st b hb=>by
  have e:b=it:=by simpa using hb
  subst e
  exact ⟨_,st,fun v z=>by
   have z':Data.fields _=Data.cell v:=z
   cases z'⟩
 keep:=fun i h h' st k=>k it (by simp) _ st
 item:=by
  intro X hP hw hK hc i pins s σ H E I hf st hg
  subst hP hw hK
  obtain ⟨f0,f1,f2,f3,f4,f5⟩:=hf it (by simp)
  have W:=Walks.range (prog:=X.prog) (w:=X.w) (I.ok.hd hc) it lo 1 n
  refine W.item i s _ _ hg st fun v h' tk hv st' kk=>?_
  obtain ⟨t,rfl⟩:=hv
  have I1:Inv X pins σ H { s with heap:=h',toks:=tk }:=I.turned (fun b o hb e=>kk b o (by simpa using hb) e) f0 f1 f3 f4 f5
  refine ⟨_,rfl,go_of (s:={ s with heap:=h',toks:=tk }) (n:= "range_iterator") st' rfl rfl (by decide) ⟨.int (lo + i),H,I1,⟨t,?_⟩,⟨rfl,rfl⟩,st',fun b hb=>(hf b hb).1⟩⟩
  rw [Int.mul_one]
 done:=by
  intro X hP hw hK hc i pins s σ H E I hf st hg
  subst hP hw hK
  obtain ⟨f0,f1,f2,f3,f4,f5⟩:=hf it (by simp)
  exact wpAny_pyNext_range_end (I.ok.hd hc) st (by have:n ≤ i:=hg;omega) fun h' eb=>⟨rfl,I.turned (t':=s.toks) (fun b o hb e=>eb b o hb e) f0 f1 f3 f4 f5⟩
 self:=fun _ _ _ _ _ st h=>wpAny_pyIter_rangeiter st h
end L2
namespace L2
open PySem PySem.Spec PyProof.Rows
section
variable {X:Cx} {tg:Expr}
theorem range_it{pins:List (Addr×Obj)}{σ:St}{H:Hp}{s:Shared}{R:It→Hp→Prop}{E:Value→Shared→Prop}{lo hi:Int}{t u v:Tok}{tk:Nat}(I:Inv X pins σ H s)(h1:-(2 ^ 62) ≤ lo)(h2:lo < 2 ^ 62)(h3:-(2 ^ 62) ≤ hi)(h4:hi < 2 ^ 62)
  (q:R (Itr lo (hi - lo).toNat) H):wpAny (model X.prog X.w) X.A (pyIter (.ref s.heap.objs.size)) (PIE X pins σ tg R) E { s with heap:=s.heap.push { cls:=.type "range",data:=.fields #[.int lo t,.int hi u,.int 1 v] },toks:=tk }:=by
 refine wpAny_pyIter_range (IsRange.new ..) (small_one h1 h2 h3 h4) ?_
 have I1:Inv X pins σ H { s with heap:=s.heap.push { cls:=.type "range",data:=.fields #[.int lo t,.int hi u,.int 1 v] },toks:=tk }:=I.kept fun b o e=>Heap.get?_push_of_some _ e
 refine ⟨(s.heap.push { cls:=.type "range",data:=.fields #[.int lo t,.int hi u,.int 1 v] }).objs.size,[(s.heap.push { cls:=.type "range",data:=.fields #[.int lo t,.int hi u,.int 1 v] }).objs.size],_,_,H,rfl,
  I1.kept (t':=tk) fun b o e=>Heap.get?_push_of_some _ e,turn_range _ lo (hi - lo).toNat,?_,fun b hb=>?_,q⟩
 ·have e1:lo + ((0:Nat):Int) * 1=lo:=by simp
  have e2:(((hi - lo).toNat:Nat):Int) - ((0:Nat):Int)=Builtin.Range.rangeSize lo hi 1:=by rw [rangeSize_one];split <;> omega
  show IsRangeIter _ _ (lo + ((0:Nat):Int) * 1) ((((hi - lo).toNat:Nat):Int) - ((0:Nat):Int)) 1
  rw [e1,e2]
  exact Heap.get?_push_size _ rfl
 ·have e:b=(s.heap.push { cls:=.type "range",data:=.fields #[.int lo t,.int hi u,.int 1 v] }).objs.size:=by simpa using hb
  subst e
  exact I1.fpOk (Nat.le_refl _) (I1.hok.fresh (Nat.le_refl _))
noncomputable def iRng1(ta:TA):TI:=fun σ H R=>ta σ H fun vs H1=>∃ j:Int,vs=[.int j]∧-(2 ^ 62) ≤ j∧j < 2 ^ 62∧R (Itr 0 j.toNat) H1
noncomputable def iRng2(ta:TA):TI:=fun σ H R=>ta σ H fun vs H1=>∃ i j:Int,vs=[.int i,.int j]∧(-(2 ^ 62) ≤ i∧i < 2 ^ 62∧-(2 ^ 62) ≤ j∧j < 2 ^ 62)∧R (Itr i (j - i).toNat) H1
theorem pi_range1{a:Expr}{ta:TA}{p pos:Pos}(hg:Gl X "range")(hm:X.mg "range" = none)(ha:PA X [a] ta)(hs:starEach [a] X.env=[(false,eval a X.env)]:=by rfl):PI X tg (.Call (.Name "range" p) [a] [] pos) (iRng1 ta):=by
 intro pins s σ H R I h
 refine Call_ (ld_blt I hg hm boot_range (PyProof.Rows.callWith_type1 (thn (ha pos pins s σ H _ I h) fun us s1 ⟨vs,H1,I1,r1,q1⟩=>?_) hs rfl))
 obtain ⟨j,e,q1,q2,q⟩:=q1
 subst e
 cases r1 with
 |cons r rr =>
  cases rr
  obtain ⟨t,rfl⟩:=r
  exact call_range_1 (range_it I1 (by omega) (by omega) q1 q2 (by simpa using q))
theorem pi_range2{a b:Expr}{ta:TA}{p pos:Pos}(hg:Gl X "range")(hm:X.mg "range" = none)(ha:PA X [a,b] ta)(hs:starEach [a,b] X.env=[(false,eval a X.env),(false,eval b X.env)]:=by rfl)(hs2:starEach [b] X.env=[(false,eval b X.env)]:=by rfl) :
  PI X tg (.Call (.Name "range" p) [a,b] [] pos) (iRng2 ta):=by
 intro pins s σ H R I h
 refine Call_ (ld_blt I hg hm boot_range (PyProof.Rows.callWith_type1 (thn (ha pos pins s σ H _ I h) fun us s1 ⟨vs,H1,I1,r1,q1⟩=>?_) (by rw [hs,hs2]) (by rw [hs2];rfl)))
 obtain ⟨i,j,e,⟨q1,q2,q3,q4⟩,q⟩:=q1
 subst e
 cases r1 with
 |cons r rr =>
  cases rr with
  |cons r' rr =>
   cases rr
   obtain ⟨t,rfl⟩:=r
   obtain ⟨t',rfl⟩:=r'
   exact call_range_2 (range_it I1 q1 q2 q3 q4 q)
noncomputable def tFor(wi:TI)(g:TG)(tb:TS):TS:=fun D σ H=>wi σ H fun J H1=>∃ W:Nat→Nat→St→Hp→Prop,(∃ m,W 0 m σ H1)∧∀ i m σ H,W i m σ H →
 (J.stop i H∧D.nx σ H)∨(J.go i H∧∃ N:St→Hp→Prop,(∀ σ' H',N σ' H'→∃ m',m' < m∧W (i + 1) m' σ' H')∧∀ x H',J.yld i H x H'→g x σ H' fun σ2 H2=>tb { D with nx:=N,ct:=N,bk:=D.nx } σ2 H2)
noncomputable def pinsAt(fp:List Addr)(h:Heap):List (Addr×Obj):=fp.filterMap fun b=>(h.get? b).map fun o=>(b,o)
theorem mem_pinsAt{fp:List Addr}{h:Heap}{b:Addr}{o:Obj}(hb:b ∈ fp)(e:h.get? b=some o):(b,o) ∈ pinsAt fp h:=List.mem_filterMap.mpr ⟨b,hb,by rw [e];rfl⟩
theorem of_pinsAt{fp:List Addr}{h:Heap}{p:Addr×Obj}(hp:p ∈ pinsAt fp h):p.1 ∈ fp∧h.get? p.1=some p.2:=by
 obtain ⟨b,hb,e⟩:=List.mem_filterMap.mp hp
 cases q:h.get? b with
 |none=>rw [q] at e;cases e
 |some o =>
  rw [q] at e
  have e':(b,o)=p:=Option.some.inj e
  subst e'
  exact ⟨hb,q⟩
theorem Inv.pinned{pins:List (Addr×Obj)}{σ:St}{H:Hp}{s:Shared}{fp:List Addr}(I:Inv X pins σ H s)(hf:∀ b ∈ fp,FpOk X pins H b)(ho:∀ b ∈ fp,∃ o,s.heap.get? b=some o∧∀ v,o.data ≠ .cell v):Inv X (pins ++ pinsAt fp s.heap) σ H s :=
 I.pins_of fun p hp=>(List.mem_append.mp hp).elim (fun z=>I.pin p (List.mem_append_right _ z)) fun z=>by
  obtain ⟨hb,e⟩:=of_pinsAt z
  obtain ⟨f0,f1,f2,_⟩:=hf p.1 hb
  obtain ⟨o,e',d⟩:=ho p.1 hb
  rw [e] at e';cases e'
  exact ⟨e,f0,f1,f2,d⟩
theorem Inv.unpinned{pins pl:List (Addr×Obj)}{σ:St}{H:Hp}{s:Shared}(I:Inv X (pins ++ pl) σ H s):Inv X pins σ H s:=I.pins_of fun p hp=>I.pin p (List.mem_append_right _ (List.mem_append_left _ hp))
theorem ps_for{iter:Expr}{body:List Stmt}{wi:TI}{g:TG}{tb:TS}{pos:Pos}(hp:PassesOwn (model X.prog X.w) X.A X.env X.xe)(hc:X.calm=true)(hi:PI X tg iter wi)(hg:PG X tg g)(hb:PSs X body tb)
  (hs:∀ x,foldedSetIterable iter X.env x=pure x:=by intro _;rfl):PS X (.For tg iter body [] pos) (tFor wi g tb):=by
 intro pins s σ H D I h
 refine wpAny_For (thn (hi pins s σ H _ I h) fun v s1 h1=>thn h1 fun itv s2 h2=>?_) hs
 obtain ⟨it,fp,tn,J,H2,e,I2,T,st2,f2,W,⟨m0,w0⟩,turn⟩:=h2
 subst e
 have stat:∀ {H':Hp},(∀ b ∈ fp,H' b=none)→∀ b ∈ fp,FpOk X pins H' b:=fun hn b hb=>⟨hn b hb,(f2 b hb).2⟩
 refine codeAny_forLoop_any (fun n s'=>∃ i σ' H',Inv X pins σ' H' s'∧tn i s'.heap∧(∀ b ∈ fp,H' b=none)∧W i n σ' H') ?_ m0 ⟨0,σ,H2,I2,st2,fun b hb=>(f2 b hb).1,w0⟩
 rintro n s3 ⟨i,σ3,H3,I3,st3,fr3,w3⟩
 rcases turn i n σ3 H3 w3 with ⟨stop,qn⟩ | ⟨go,N,hN,step⟩
 ·refine wpAny_passesOwn hp (thn (T.done X rfl rfl rfl hc i pins s3 σ3 H3 X.xe I3 (stat fr3) st3 stop) fun r s4 zz0=>?_)
  obtain ⟨hr,I4⟩:=zz0
  subst hr
  exact wpAny_execs_nil ⟨σ3,H3,I4,qn⟩
 ·refine wpAny_passesOwn hp (thn (T.item X rfl rfl rfl hc i pins s3 σ3 H3 X.xe I3 (stat fr3) st3 go) fun r s4 zz0=>?_)
  obtain ⟨u,hr,h4⟩:=zz0
  subst hr
  refine wpAny_passesOwn hp (thn h4 fun _ s5 zz0=>?_)
  obtain ⟨x,H5,I5,r5,y5,st5,fr5⟩:=zz0
  have I5':=I5.pinned (stat fr5) (T.obj _ _ st5)
  refine wpAny_passesOwn hp (thn (hg _ s5 σ3 H5 x u _ I5' r5 (step x H5 y5)) fun _ s6 zz0=>?_)
  obtain ⟨σ6,H6,I6,q6⟩:=zz0
  refine wpAny_passesOwn hp (thn (hb _ s6 σ6 H6 _ I6 q6) fun f s7 q7=>?_)
  have again:∀ {σ7:St} {H7:Hp},Inv X (pins ++ pinsAt fp s5.heap) σ7 H7 s7→N σ7 H7→∃ m,m < n∧∃ i σ' H',Inv X pins σ' H' s7∧tn i s7.heap∧(∀ b ∈ fp,H' b=none)∧W i m σ' H':=fun {σ7 H7} I7 n7=>by
   obtain ⟨m',hm,w7⟩:=hN σ7 H7 n7
   refine ⟨m',hm,i + 1,σ7,H7,I7.unpinned,T.keep _ _ _ st5 fun b hb o e=>(I7.pin (b,o) (List.mem_append_right _ (List.mem_append_right _ (mem_pinsAt hb e)))).1,fun b hb=>?_,w7⟩
   obtain ⟨o,e,d⟩:=T.obj _ _ st5 b hb
   exact (I7.pin (b,o) (List.mem_append_right _ (List.mem_append_right _ (mem_pinsAt hb e)))).2.1
  cases f with
  |next=>obtain ⟨σ7,H7,I7,n7⟩:=q7;exact again I7 n7
  |cont=>obtain ⟨σ7,H7,I7,n7⟩:=q7;exact again I7 n7
  |brk=>obtain ⟨σ7,H7,I7,q7⟩:=q7;exact ⟨σ7,H7,I7.unpinned,q7⟩
  |ret v=>obtain ⟨x7,σ7,H7,I7,r7,q7⟩:=q7;exact ⟨x7,σ7,H7,I7.unpinned,r7,q7⟩
end
end L2
namespace L2
open PySem PySem.Spec PyProof.Rows
noncomputable abbrev R2:=V→V→Hp→VK→Prop
noncomputable def OpR(X:Cx)(f:Value→Value→Sem Value)(r:R2):Prop :=
 ∀ (pins:List (Addr×Obj)) (s:Shared) (σ:St) (H:Hp) (x y:V) (v u:Value) (Q:VK),Inv X pins σ H s→RelV x v→RelV y u→r x y H Q →
  wpAny (model X.prog X.w) X.A (f v u) (EP X pins σ Q) X.xe s
noncomputable def UnR(X:Cx)(f:Value→Sem Value)(r:V→Hp→VK→Prop):Prop :=
 ∀ (pins:List (Addr×Obj)) (s:Shared) (σ:St) (H:Hp) (x:V) (v:Value) (Q:VK),Inv X pins σ H s→RelV x v→r x H Q →
  wpAny (model X.prog X.w) X.A (f v) (EP X pins σ Q) X.xe s
noncomputable def CallR(X:Cx)(f:Value)(r:List V→Hp→VK→Prop):Prop :=
 ∀ (pins:List (Addr×Obj)) (s:Shared) (σ:St) (H:Hp) (xs:List V) (us:List Value) (Q:VK),Inv X pins σ H s→Vals xs us→r xs H Q →
  wpAny (model X.prog X.w) X.A (call f us) (EP X pins σ Q) X.xe s
noncomputable def TruR(X:Cx)(r:V→Hp→(Bool→Hp→Prop)→Prop):Prop :=
 ∀ (pins:List (Addr×Obj)) (s:Shared) (σ:St) (H:Hp) (x:V) (v:Value) (Q:Bool→Hp→Prop),Inv X pins σ H s→RelV x v→r x H Q →
  wpAny (model X.prog X.w) X.A (truthy v) (TP X pins σ Q) X.xe s
noncomputable def tOp(r:R2)(ta tb:TE):TE:=fun σ H Q=>ta σ H fun x H1=>tb σ H1 fun y H2=>r x y H2 Q
noncomputable def tUn(r:V→Hp→VK→Prop)(ta:TE):TE:=fun σ H Q=>ta σ H fun x H1=>r x H1 Q
noncomputable def rI(C:Int→Int→Prop)(g:Int→Int→V):R2:=fun x y H Q=>∃ i j,x = .int i∧y = .int j∧C i j∧Q (g i j) H
noncomputable def rI0(g:Int→Int→V):R2:=fun x y H Q=>∃ i j,x = .int i∧y = .int j∧Q (g i j) H
noncomputable def rU(g:Int→V):V→Hp→VK→Prop:=fun x H Q=>∃ i,x = .int i∧Q (g i) H
section
variable {X:Cx} {a b c:Expr} {ta tb tc:TE} {pos:Pos}
theorem binT(ha:PE X a ta)(hb:PE X b tb){pins:List (Addr×Obj)}{s:Shared}{σ:St}{H:Hp}{R:V→V→Hp→Prop}(I:Inv X pins σ H s)
  (h:ta σ H fun x H1=>tb σ H1 fun y H2=>R x y H2) {Q:Value→Shared→Prop} {f:Value→Value→Sem Value}
  (hf:∀ v u s2 x y H2,Inv X pins σ H2 s2→RelV x v→RelV y u→R x y H2→wpAny (model X.prog X.w) X.A (f v u) Q X.xe s2) :
  wpAny (model X.prog X.w) X.A (eval a X.env) (fun v s₁=>wpAny (model X.prog X.w) X.A (eval b X.env) (fun u s₂=>wpAny (model X.prog X.w) X.A (f v u) Q X.xe s₂) X.xe s₁) X.xe s:=by
 refine thn (ha pins s σ H _ I h) fun v s1 zz0=>?_
 obtain ⟨x,H1,I1,r1,q1⟩:=zz0
 refine thn (hb pins s1 σ H1 _ I1 q1) fun u s2 zz0=>?_
 obtain ⟨y,H2,I2,r2,q2⟩:=zz0
 exact hf v u s2 x y H2 I2 r1 r2 q2
theorem pe_op{op:Operator}{r:R2}(ho:OpR X (binaryOp op) r)(ha:PE X a ta)(hb:PE X b tb):PE X (.BinOp a op b pos) (tOp r ta tb):=by
 intro pins s σ H Q I h
 exact wpAny_BinOp (binT ha hb I h fun v u s2 x y H2 I2 rx ry q=>ho pins s2 σ H2 x y v u Q I2 rx ry q)
theorem pe_un{op:UnaryOp}{r:V→Hp→VK→Prop}(ho:UnR X (unaryOp op) r)(ha:PE X a ta):PE X (.UnaryOp op a pos) (tUn r ta):=by
 intro pins s σ H Q I h
 exact UnaryOp_ (thn (ha pins s σ H _ I h) fun v s1 ⟨x,H1,I1,r1,q1⟩=>ho pins s1 σ H1 x v Q I1 r1 q1)
theorem opI{f:Value→Value→Sem Value}{C:Int→Int→Prop}{g:Int→Int→Int}
  (rule:∀ (i j:Int) (t u:Tok) (s:Shared) (Q:Value→Shared→Prop) (E:Value→Shared→Prop),C i j→Q (.int (g i j) s.toks) { s with toks:=s.toks + 1 }→wpAny (model X.prog X.w) X.A (f (.int i t) (.int j u)) Q E s) :
  OpR X f (rI C fun i j=>.int (g i j)):=by
 intro pins s σ H x y v u Q I rx ry h
 obtain ⟨i,j,rfl,rfl,hc,q⟩:=h
 obtain ⟨t,rfl⟩:=rx
 obtain ⟨t',rfl⟩:=ry
 exact rule i j t t' s _ _ hc ⟨.int (g i j),H,I.tok _,⟨_,rfl⟩,q⟩
theorem opI0{f:Value→Value→Sem Value}{g:Int→Int→Int}
  (rule:∀ (i j:Int) (t u:Tok) (s:Shared) (Q:Value→Shared→Prop) (E:Value→Shared→Prop),Q (.int (g i j) s.toks) { s with toks:=s.toks + 1 }→wpAny (model X.prog X.w) X.A (f (.int i t) (.int j u)) Q E s) :
  OpR X f (rI0 fun i j=>.int (g i j)):=by
 intro pins s σ H x y v u Q I rx ry h
 obtain ⟨i,j,rfl,rfl,q⟩:=h
 obtain ⟨t,rfl⟩:=rx
 obtain ⟨t',rfl⟩:=ry
 exact rule i j t t' s _ _ ⟨.int (g i j),H,I.tok _,⟨_,rfl⟩,q⟩
theorem opB0{f:Value→Value→Sem Value}{g:Int→Int→Bool}
  (rule:∀ (i j:Int) (t u:Tok) (s:Shared) (Q:Value→Shared→Prop) (E:Value→Shared→Prop),Q (.bool (g i j)) s→wpAny (model X.prog X.w) X.A (f (.int i t) (.int j u)) Q E s) :
  OpR X f (rI0 fun i j=>.bl (g i j)):=by
 intro pins s σ H x y v u Q I rx ry h
 obtain ⟨i,j,rfl,rfl,q⟩:=h
 obtain ⟨t,rfl⟩:=rx
 obtain ⟨t',rfl⟩:=ry
 exact rule i j t t' s _ _ ⟨.bl (g i j),H,I,rfl,q⟩
noncomputable def CPow(i j:Int):Prop:=0 ≤ j∧j ≤ 1000000∧i.natAbs < 2 ^ 64
theorem two_pow_nn(k:Nat):(0:Int) ≤ 2 ^ k:=by
 rw [two_pow_cast]
 exact Int.natCast_nonneg _
theorem op_add:OpR X (binaryOp .Add) (rI0 fun i j=>.int (i + j)):=opI0 fun _ _ _ _ _ _ _ q=>add_int q
theorem op_sub:OpR X (binaryOp .Sub) (rI0 fun i j=>.int (i - j)):=opI0 fun _ _ _ _ _ _ _ q=>sub_int q
theorem op_mod:OpR X (binaryOp .Mod) (rI (fun _ j=>0 < j) fun i j=>.int (i % j)):=opI fun i j _ _ _ _ _ hc q=>by
 have h1:(0:Int) < j:=hc
 exact mod_int' (by omega) (by rw [Int.fmod_eq_emod_of_nonneg i (by omega)];exact q)
theorem op_pow:OpR X (binaryOp .Pow) (rI CPow fun i j=>.int (i ^ j.toNat)):=opI fun _ _ _ _ _ _ _ hc q=>pow_int_small hc.1 hc.2.1 hc.2.2 q
theorem op_shl:OpR X (binaryOp .LShift) (rI CPow fun i j=>.int (i * 2 ^ j.toNat)):=opI fun _ _ _ _ _ _ _ hc q=>lshift_int_small hc.1 hc.2.1 hc.2.2 q
theorem op_shr:OpR X (binaryOp .RShift) (rI (fun _ j=>0 ≤ j) fun i j=>.int (i / 2 ^ j.toNat)):=opI fun i j _ _ _ _ _ hc q =>
 rshift_int hc (by rw [Int.fdiv_eq_ediv_of_nonneg i (two_pow_nn _)];exact q)
theorem op_and:OpR X (binaryOp .BitAnd) (rI0 fun i j=>.int (Builtin.bitAnd i j)):=opI0 fun _ _ _ _ _ _ _ q=>and_int q
theorem op_or:OpR X (binaryOp .BitOr) (rI0 fun i j=>.int (Builtin.bitOr i j)):=opI0 fun _ _ _ _ _ _ _ q=>or_int q
theorem iop_add:OpR X (inplaceOp .Add) (rI0 fun i j=>.int (i + j)):=opI0 fun _ _ _ _ _ _ _ q=>iadd_int q
theorem iop_or:OpR X (inplaceOp .BitOr) (rI0 fun i j=>.int (Builtin.bitOr i j)):=opI0 fun _ _ _ _ _ _ _ q=>ior_int q
theorem unI{f:Value→Sem Value}{g:Int→Int}
  (rule:∀ (i:Int) (t:Tok) (s:Shared) (Q:Value→Shared→Prop) (E:Value→Shared→Prop),Q (.int (g i) s.toks) { s with toks:=s.toks + 1 }→wpAny (model X.prog X.w) X.A (f (.int i t)) Q E s) :
  UnR X f (rU fun i=>.int (g i)):=by
 intro pins s σ H x v Q I rx h
 obtain ⟨i,rfl,q⟩:=h
 obtain ⟨t,rfl⟩:=rx
 exact rule i t s _ _ ⟨.int (g i),H,I.tok _,⟨_,rfl⟩,q⟩
theorem un_neg:UnR X (unaryOp .USub) (rU fun i=>.int (-i)):=unI fun _ _ _ _ _ q=>neg_int q
end
section
variable {X:Cx} {a b c:Expr} {ta tb tc:TE} {pos:Pos}
theorem op_lt:OpR X (compareOp .Lt) (rI0 fun i j=>.bl (decide (i < j))):=opB0 fun _ _ _ _ _ _ _ q=>lt_int q
theorem op_le:OpR X (compareOp .LtE) (rI0 fun i j=>.bl (decide (i ≤ j))):=opB0 fun _ _ _ _ _ _ _ q=>le_int q
theorem op_ge:OpR X (compareOp .GtE) (rI0 fun i j=>.bl (decide (j ≤ i))):=opB0 fun _ _ _ _ _ _ _ q=>ge_int q
theorem OpR.or{f:Value→Value→Sem Value}{r r':R2}(h:OpR X f r)(h':OpR X f r'):OpR X f (fun x y H Q=>r x y H Q∨r' x y H Q):=by
 intro pins s σ H x y v u Q I rx ry q
 rcases q with q | q
 ·exact h pins s σ H x y v u Q I rx ry q
 ·exact h' pins s σ H x y v u Q I rx ry q
theorem nomark(b:Expr){op:CmpOp}(h:op ≠ .In:=by decide)(h2:op ≠ .NotIn:=by decide):behindInMarks op b=false:=by
 have e1:(op == CmpOp.In)=false:=by cases op <;> first | rfl | exact absurd rfl h
 have e2:(op == CmpOp.NotIn)=false:=by cases op <;> first | rfl | exact absurd rfl h2
 cases b with
 |Set elts k p =>
  show (k == 0 && (op == .In || op == .NotIn) && elts.all (constantsAlone 8))=false
  rw [e1,e2]
  cases k == 0 <;> rfl
 |_=>rfl
theorem pe_cmpR{op:CmpOp}{r:R2}(ho:OpR X (compareOp op) r)(ha:PE X a ta)(hb:PE X b tb)(hm:behindInMarks op b=false):PE X (.Compare a [op] [b] pos) (tOp r ta tb):=by
 intro pins s σ H Q I h
 exact wpAny_Compare1 (binT ha hb I h fun v u s2 x y H2 I2 rx ry q=>ho pins s2 σ H2 x y v u Q I2 rx ry q) hm
noncomputable def tTest(t:TE):TT:=fun σ H Q=>t σ H fun x H'=>∃ k,x = .bl k∧Q k H'
theorem pt_cmpR{op:CmpOp}{r:R2}(ho:OpR X (compareOp op) r)(ha:PE X a ta)(hb:PE X b tb)(hm:behindInMarks op b=false):PT X (.Compare a [op] [b] pos) (tTest (tOp r ta tb)):=by
 intro pins s σ H Q I h
 refine wpAny_isTrue_Compare1 (thn (ha pins s σ H _ I h) fun v s1 ⟨x,H1,I1,r1,q1⟩=>thn (hb pins s1 σ H1 _ I1 q1) fun u s2 ⟨y,H2,I2,r2,q2⟩ =>
  thn (ho pins s2 σ H2 x y v u _ I2 r1 r2 q2) fun c s3 ⟨z,H3,I3,r3,k,e,q3⟩=>?_) hm
 subst e
 cases r3
 exact wpAny_truthy_bool ⟨H3,I3,q3⟩
noncomputable def tChain(r r':R2)(ta tb tc:TE):TE:=fun σ H Q=>ta σ H fun x H1=>tb σ H1 fun y H2=>r x y H2 fun z H3=>∃ k,z = .bl k ∧
 (if k=true then tc σ H3 fun w' H4=>r' y w' H4 Q else Q (.bl false) H3)
theorem pe_chain{op op':CmpOp}{r r':R2}(ho:OpR X (compareOp op) r)(ho':OpR X (compareOp op') r')(ha:PE X a ta)(hb:PE X b tb)(hc:PE X c tc)
  (hm:lastMarks [op,op'] [b,c]=false:=by with_unfolding_all rfl):PE X (.Compare a [op,op'] [b,c] pos) (tChain r r' ta tb tc):=by
 intro pins s σ H Q I h
 refine Compare_chain (thn (ha pins s σ H _ I h) fun v s1 ⟨x,H1,I1,r1,q1⟩=>chain_link (thn (hb pins s1 σ H1 _ I1 q1) fun u s2 ⟨y,H2,I2,r2,q2⟩ =>
  thn (ho pins s2 σ H2 x y v u _ I2 r1 r2 q2) fun d s3 ⟨z,H3,I3,r3,k,e,q3⟩=>?_)) hm
 subst e
 cases r3
 refine wpAny_truthy_bool ?_
 cases k with
 |false=>exact ite_ff ⟨.bl false,H3,I3,rfl,q3⟩
 |true=>exact ite_tt (chain_last (thn (hc pins s3 σ H3 _ I3 q3) fun w' s4 ⟨z',H4,I4,r4,q4⟩=>ho' pins s4 σ H4 y z' u w' Q I4 r2 r4 q4))
theorem pt_chain{op op':CmpOp}{r r':R2}(ho:OpR X (compareOp op) r)(ho':OpR X (compareOp op') r')(ha:PE X a ta)(hb:PE X b tb)(hc:PE X c tc)
  (hm:lastMarks [op,op'] [b,c]=false:=by with_unfolding_all rfl):PT X (.Compare a [op,op'] [b,c] pos) (tTest (tChain r r' ta tb tc)):=by
 intro pins s σ H Q I h
 refine isTrue_chain (thn (ha pins s σ H _ I h) fun v s1 ⟨x,H1,I1,r1,q1⟩=>test_link (thn (hb pins s1 σ H1 _ I1 q1) fun u s2 ⟨y,H2,I2,r2,q2⟩ =>
  thn (ho pins s2 σ H2 x y v u _ I2 r1 r2 q2) fun d s3 ⟨z,H3,I3,r3,k,e,q3⟩=>?_)) hm
 subst e
 cases r3
 refine wpAny_truthy_bool ?_
 cases k with
 |false =>
  obtain ⟨k',e',q'⟩:=q3
  cases e'
  exact ite_ff ⟨H3,I3,q'⟩
 |true =>
  refine ite_tt (test_last (thn (hc pins s3 σ H3 _ I3 q3) fun w' s4 ⟨z',H4,I4,r4,q4⟩=>thn (ho' pins s4 σ H4 y z' u w' _ I4 r2 r4 q4) fun d' s5 zz0=>?_))
  obtain ⟨z2,H5,I5,r5,k2,e2,q5⟩:=zz0
  subst e2
  cases r5
  exact wpAny_truthy_bool ⟨H5,I5,q5⟩
noncomputable def TruV(K:PySem.W.Frag)(x:V)(H:Hp)(k:Bool):Prop :=
 match x with
 |.non=>k=false
 |.bl b=>k=b
 |.int i=>k=(i != 0)
 |.str y=>y.length ≤ sizeLine∧k=((y.length:Int) != 0)
 |.byt y=>y.size ≤ sizeLine∧k=((y.size:Int) != 0)
 |.ref p=>(∃ xs,SqL K H p xs∧k = !xs.isEmpty)∨(∃ xs,SqT K H p xs∧k = !xs.isEmpty)∨∃ kvs,H p=some (.dK kvs)∧k = !kvs.isEmpty
 |_=>False
theorem isEmpty_kv{κ:Type}{kvs:List (κ×V)}{vs:List (κ×Value)}(r:KV kvs vs):(!vs.isEmpty) = !kvs.isEmpty:=by
 cases r <;> rfl
theorem isEmpty_of{xs:List V}{its:List Value}(r:Vals xs its):(!its.toArray.isEmpty) = !xs.isEmpty:=by
 cases r <;> simp
theorem line63:(sizeLine:Nat) < 2 ^ 63:=by rw [sizeLine_eq];decide
theorem tru_ok:TruR X (fun x H Q=>∃ k,TruV X.K x H k∧Q k H):=by
 intro pins s σ H x v Q I rx h
 obtain ⟨k,e,q⟩:=h
 have hl:=line63
 have hs:sizeLine=16777216:=sizeLine_eq
 cases x with
 |non =>
  cases rx
  have e':k=false:=e
  subst e'
  exact truthy_none ⟨H,I,q⟩
 |bl b =>
  cases rx
  have e':k=b:=e
  subst e'
  exact wpAny_truthy_bool ⟨H,I,q⟩
 |int i =>
  obtain ⟨t,rfl⟩:=rx
  have e':k=(i != 0):=e
  subst e'
  exact PySem.P.truthy_int ⟨H,I,q⟩
 |str y =>
  obtain ⟨t,rfl⟩:=rx
  obtain ⟨hy,e'⟩:y.length ≤ sizeLine∧k=((y.length:Int) != 0):=e
  subst e'
  exact PySem.P.truthy_str (by omega) ⟨H,I.tok _,q⟩
 |byt y =>
  obtain ⟨t,rfl⟩:=rx
  obtain ⟨hy,e'⟩:y.size ≤ sizeLine∧k=((y.size:Int) != 0):=e
  subst e'
  exact PySem.W.truthy_bytes (by omega) ⟨H,I.tok _,q⟩
 |ref p =>
  cases rx
  have e':(∃ xs,SqL X.K H p xs∧k = !xs.isEmpty)∨(∃ xs,SqT X.K H p xs∧k = !xs.isEmpty)∨∃ kvs,H p=some (.dK kvs)∧k = !kvs.isEmpty:=e
  rcases e' with ⟨xs,hx,e'⟩ | ⟨xs,hx,e'⟩ | ⟨kvs,hx,e'⟩
  ·subst e'
   obtain ⟨its,r,pl,hz⟩:=I.list hx
   have hlen:=r.length
   exact wpAny_truthy_list pl.isList (by simp only [List.size_toArray];omega) ⟨H,I.tok _,by rw [isEmpty_of r];exact q⟩
  ·subst e'
   obtain ⟨its,r,pl,hz⟩:=I.tuple hx
   have hlen:=r.length
   exact truthy_tuple pl (by simp only [List.size_toArray];omega) ⟨H,I.tok _,by rw [isEmpty_of r];exact q⟩
  ·subst e'
   obtain ⟨hz,hS,vs,r,m⟩:kvs.length ≤ sizeLine∧(p == sysModules)=false∧∃ vs,KV kvs vs∧s.heap.DictOf (mixKind X.prog X.w) p vs:=I.hok p _ hx
   have hlen:kvs.length=vs.length:=Paired.length r
   exact wpAny_truthy_dict hS m (by omega) ⟨H,I.tok _,by rw [isEmpty_kv r];exact q⟩
 |_=>exact (show False from e).elim
theorem pt_truth(ha:PE X a ta)(he:∀ whole,isTrue a X.env whole=(do let v ← whole;standAt a.pos;holding [v] (truthy v))) :
  PT X a (fun σ H Q=>ta σ H fun x H'=>∃ k,TruV X.K x H' k∧Q k H'):=by
 intro pins s σ H Q I h
 exact isTrue_plain (thn (ha pins s σ H _ I h) fun v s1 ⟨x,H1,I1,r1,q1⟩=>tru_ok pins s1 σ H1 x v Q I1 r1 q1) (he _)
theorem op_add_str:OpR X (binaryOp .Add) (fun x y H Q=>∃ i j,x = .str i∧y = .str j∧i.length + j.length ≤ sizeLine∧Q (.str (i ++ j)) H):=by
 intro pins s σ H x y v u Q I rx ry h
 obtain ⟨i,j,rfl,rfl,hz,q⟩:=h
 obtain ⟨t,rfl⟩:=rx
 obtain ⟨t',rfl⟩:=ry
 exact add_str (fun t' tk=>⟨.str (i ++ j),H,I.tok _,⟨_,rfl⟩,q⟩) hz
theorem vals1{x:V}{us:List Value}(r:Vals [x] us):∃ u,us=[u]∧RelV x u:=by
 cases r with
 |cons r1 r2=>cases r2;exact ⟨_,rfl,r1⟩
theorem vals2{x y:V}{us:List Value}(r:Vals [x,y] us):∃ u w',us=[u,w']∧RelV x u∧RelV y w':=by
 cases r with
 |cons r1 r2 =>
  cases r2 with
  |cons r3 r4=>cases r4;exact ⟨_,_,rfl,r1,r3⟩
theorem call_min2(hc:X.calm=true):CallR X (.builtin "min") (fun xs H Q=>∃ i j,xs=[.int i,.int j]∧Q (.int (if j < i then j else i)) H):=by
 intro pins s σ H xs us Q I r h
 obtain ⟨i,j,rfl,q⟩:=h
 obtain ⟨u,w',rfl,⟨t,rfl⟩,⟨t',rfl⟩⟩:=vals2 r
 refine min_two_ints (I.ok.hd hc) fun h' tk k=>⟨_,H,I.kept k,?_,q⟩
 by_cases hj:j < i
 ·rw [if_pos hj,if_pos hj];exact ⟨_,rfl⟩
 ·rw [if_neg hj,if_neg hj];exact ⟨_,rfl⟩
theorem call_int1:CallR X (.type "int") (fun xs H Q=>(∃ i,xs=[.int i]∧Q (.int i) H)∨∃ k,xs=[.bl k]∧Q (.int (if k then 1 else 0)) H):=by
 intro pins s σ H xs us Q I r h
 rcases h with ⟨i,rfl,q⟩ | ⟨k,rfl,q⟩
 ·obtain ⟨u,rfl,t,rfl⟩:=vals1 r
  exact call_int_int ⟨.int i,H,I,⟨_,rfl⟩,q⟩
 ·obtain ⟨u,rfl,r1⟩:=vals1 r
  cases r1
  exact call_int_bool ⟨.int (if k then 1 else 0),H,I.tok _,⟨_,rfl⟩,q⟩
noncomputable def LenV(K:PySem.W.Frag)(x:V)(H:Hp)(n:Nat):Prop :=
 match x with
 |.str y=>y.length ≤ sizeLine∧n=y.length
 |.byt y=>y.size ≤ sizeLine∧n=y.size
 |.ref p=>(∃ xs,SqL K H p xs∧n=xs.length)∨∃ xs,SqT K H p xs∧n=xs.length
 |_=>False
theorem call_len:CallR X (.builtin "len") (fun xs H Q=>∃ x n,xs=[x]∧LenV X.K x H n∧Q (.int n) H):=by
 intro pins s σ H xs us Q I r h
 obtain ⟨x,n,rfl,e,q⟩:=h
 obtain ⟨u,rfl,rx⟩:=vals1 r
 have hl:=line63
 have hs:sizeLine=16777216:=sizeLine_eq
 cases x with
 |str y =>
  obtain ⟨t,rfl⟩:=rx
  obtain ⟨hy,e'⟩:y.length ≤ sizeLine∧n=y.length:=e
  subst e'
  exact len_str (by omega) ⟨.int _,H,I.tok _,⟨_,rfl⟩,q⟩
 |byt y =>
  obtain ⟨t,rfl⟩:=rx
  obtain ⟨hy,e'⟩:y.size ≤ sizeLine∧n=y.size:=e
  subst e'
  exact PySem.W.len_bytes (by omega) ⟨.int _,H,I.tok _,⟨_,rfl⟩,q⟩
 |ref p =>
  cases rx
  have e':(∃ xs,SqL X.K H p xs∧n=xs.length)∨∃ xs,SqT X.K H p xs∧n=xs.length:=e
  rcases e' with ⟨xs,hx,e'⟩ | ⟨xs,hx,e'⟩
  ·subst e'
   obtain ⟨its,r',pl,hz⟩:=I.list hx
   have hlen:=r'.length
   exact Calls.call_len_list pl.isList (by simp only [List.size_toArray];omega) ⟨.int xs.length,H,I.tok _,⟨_,by simp only [List.size_toArray];rw [hlen]⟩,q⟩
  ·subst e'
   obtain ⟨its,r',pl,hz⟩:=I.tuple hx
   have hlen:=r'.length
   exact len_tuple pl (by simp only [List.size_toArray];omega) ⟨.int xs.length,H,I.tok _,⟨_,by simp only [List.size_toArray];rw [hlen]⟩,q⟩
 |_=>exact (show False from e).elim
end
end L2
namespace L2
open PySem PySem.Spec PyProof.Rows
structure ObjM(h:Heap)(x dx C:Addr)(mA:Str→Option Value):Prop where
 obj:h.get? x=some (PySem.W.instObj C dx)
 ns:h.Ns1 dx mA
 ne:dx ≠ x
theorem lookIn_ns{h:Heap}{dx:Addr}{mA:Str→Option Value}(n:h.Ns1 dx mA):∃ od,h.get? dx=some od∧∀ name,PySem.W.lookIn name od=some (mA name):=by
 obtain ⟨o,es,ep,ho,hd,hk,_,hm⟩:=n
 refine ⟨o,ho,fun name=>?_⟩
 have e:=hm name
 unfold nsFind findBy at e
 rw [← Array.find?_toList] at e
 unfold PySem.W.lookIn
 rw [hd]
 dsimp only
 split
 ·rename_i y q
  rw [q] at e
  exact congrArg some e
 ·rename_i q
  rw [q] at e
  have a:es.toList.any (·.refKey)=false:=by
   rw [List.any_eq_false]
   intro y hy
   obtain ⟨z,t,hkey⟩:=hk y (Array.mem_toList_iff.mp hy)
   simp [DictEntry.refKey,hkey]
  have a':¬ es.toList.any (·.refKey)=true:=by rw [a];exact Bool.false_ne_true
  rw [if_neg a']
  exact congrArg some e
theorem ObjM.look{h:Heap}{x dx C:Addr}{mA:Str→Option Value}(I:ObjM h x dx C mA):∃ od,PySem.W.InstAt h x (PySem.W.instObj C dx) C (some od)∧∀ name,PySem.W.lookIn name od=some (mA name) :=
 let ⟨od,ho,hl⟩:=lookIn_ns I.ns
 ⟨od,⟨I.obj,rfl,rfl,ho⟩,hl⟩
section
variable {prog:Program} {w:World} {A:Around} {E:Value→Shared→Prop} {s:Shared} {K:PySem.W.Frag} {x dx C f:Addr} {mA:Str→Option Value} {name:Str} {v:Value}
end
section
variable {P:Program} {w:World} {H H':Hp} {h h':Heap} {a C dx:Addr} {fs fs':List (Str×V)}
theorem ins_get(hok:HOk P w H h)(e:H a=some (.ins C dx fs)):∃ mA,ObjM h a dx C mA∧(∀ f,RelO (fs.lookup f) (mA f))∧PySem.Within mA (fs.map (·.1))∧fs.length ≤ 1000∧H dx=some (.own a):=by
 obtain ⟨d,z,ne,ob,mA,n,r,q⟩:=(show ObjOk P w H h a (.ins C dx fs) from hok a _ e)
 exact ⟨mA,⟨ob,n,ne⟩,r,q,z,d⟩
end
structure Cls(K:PySem.W.Frag)(C:Addr):Prop where
 pg:PySem.W.plainGet K C Str.empty=true
 hd:PySem.W.hasDictIn K C=true
 po:PySem.W.plainOver K C=true
 sa:PySem.W.findIn K (.ref C) "__setattr__" = some (some (.builtin "object.__setattr__"))
theorem Cls.get{K:PySem.W.Frag}{C:Addr}(c:Cls K C)(f:Str):PySem.W.plainGet K C f=true:=c.pg
section
variable {X:Cx} {pins:List (Addr×Obj)} {σ:St} {H:Hp} {s:Shared} {a C dx:Addr} {fs:List (Str×V)} {f:Str} {v:V} {A:Around} {E:Value→Shared→Prop}
end
section
variable {X:Cx} {o e value:Expr} {f:Str} {pos pos' tpos:Pos} {ta tv:TE}
end
section
variable {X:Cx} {pins:List (Addr×Obj)} {σ:St} {H:Hp} {s:Shared} {A:Around} {E:Value→Shared→Prop} {Q:Value→Shared→Prop} {c:Value} {b:Bool}
inductive TyOf(K:PySem.W.Frag)(H:Hp):V→Value→Prop where
 |non:TyOf K H .non (.type "NoneType")
 |bl (x:Bool):TyOf K H (.bl x) (.type "bool")
 |int (i:Int):TyOf K H (.int i) (.type "int")
 |str (x:Str):TyOf K H (.str x) (.type "str")
 |flt (x:UInt64):TyOf K H (.flt x) (.type "float")
 |lst {a:Addr} {xs:List V} (e:H a=some (.lst xs)):TyOf K H (.ref a) (.type "list")
 |frz {a:Addr} {o:Obj} {xs:List V} (e:H a=some (.frz o (.lst xs))):TyOf K H (.ref a) (.type "list")
 |tup {a:Addr} {xs:List V} (e:H a=some (.tup xs)):TyOf K H (.ref a) (.type "tuple")
 |dK {a:Addr} {kvs:List (Key×V)} (e:H a=some (.dK kvs)):TyOf K H (.ref a) (.type "dict")
 |dT {a:Addr} {kvs:List (List Key×V)} (e:H a=some (.dT kvs)):TyOf K H (.ref a) (.type "dict")
 |ins {a C dx:Addr} {fs:List (Str×V)} (e:H a=some (.ins C dx fs)) (cl:Cls K C) (ha:PySem.W.findIn K (.ref C) "__class__" = some (some (.builtin "object.__class__")))
   (hn:PySem.W.specialIn K (.builtin "object.__class__") "__get__" = some (some (.builtin "getset_descriptor.__get__"))) (htk:PySem.W.takesIn K (.builtin "object.__class__")=some true)
   (hm:PySem.W.mroIn K C (.type "object")=some true):TyOf K H (.ref a) (.ref C)
theorem isinst_ok{x:V}{u t:Value}(I:Inv X pins σ H s)(rx:RelV x u)(ty:TyOf X.K H x t)(e:PySem.W.kitOne X.K t c=some b)(h:∀ tk,Q (.bool b) { s with toks:=tk }) :
  wpAny (model X.prog X.w) A (call (.builtin "isinstance") [u,c]) Q E s:=by
 cases ty with
 |non=>cases (show u=Value.none from rx);exact PySem.W.kia_one PySem.W.kitx_none I.kIn True.intro e (fun z=>nomatch z) h
 |bl y=>cases (show u=Value.bool y from rx);exact PySem.W.kia_one PySem.W.kitx_bool I.kIn True.intro e (fun z=>nomatch z) h
 |int i=>obtain ⟨t,q⟩:=(show ∃ t,u=Value.int i t from rx);cases q;exact PySem.W.kia_one PySem.W.kitx_int I.kIn True.intro e (fun z=>nomatch z) h
 |str y=>obtain ⟨t,q⟩:=(show ∃ t,u=Value.str y t from rx);cases q;exact PySem.W.kia_one PySem.W.kitx_str I.kIn True.intro e (fun z=>nomatch z) h
 |flt y=>obtain ⟨t,q⟩:=(show ∃ t,u=Value.float y t from rx);cases q;exact PySem.W.kia_one PySem.W.kitx_float I.kIn True.intro e (fun z=>nomatch z) h
 |@lst a xs ea =>
  cases (show u=Value.ref a from rx)
  obtain ⟨_,_,n,_,h1⟩:=(show ObjOk X.prog X.w H s.heap a (.lst xs) from I.hok a _ ea)
  exact PySem.W.kia_one PySem.W.kitx_list I.kIn ⟨_,h1,rfl⟩ e (fun z=>nomatch z) h
 |@frz a ob xs ea =>
  cases (show u=Value.ref a from rx)
  obtain ⟨_,_,_,n,_,h1⟩:=(show ObjOk X.prog X.w H s.heap a (.frz ob (.lst xs)) from I.hok a _ ea)
  exact PySem.W.kia_one PySem.W.kitx_list I.kIn ⟨_,h1,rfl⟩ e (fun z=>nomatch z) h
 |@tup a xs ea =>
  cases (show u=Value.ref a from rx)
  obtain ⟨_,_,_,p⟩:=(show ObjOk X.prog X.w H s.heap a (.tup xs) from I.hok a _ ea)
  obtain ⟨o,h1,h2,_⟩:=p
  exact PySem.W.kia_one PySem.W.kitx_tuple I.kIn ⟨o,h1,h2⟩ e (fun z=>nomatch z) h
 |@dK a kvs ea =>
  cases (show u=Value.ref a from rx)
  obtain ⟨_,_,vs,_,p⟩:=(show ObjOk X.prog X.w H s.heap a (.dK kvs) from I.hok a _ ea)
  obtain ⟨o,es,ep,h1,h2,_⟩:=p
  exact PySem.W.kia_one PySem.W.kitx_dict I.kIn ⟨o,h1,h2.1⟩ e (fun z=>nomatch z) h
 |@dT a kvs ea =>
  cases (show u=Value.ref a from rx)
  obtain ⟨_,_,xs,_,o,es,ep,h1,h2,_⟩:=(show ObjOk X.prog X.w H s.heap a (.dT kvs) from I.hok a _ ea)
  exact PySem.W.kia_one PySem.W.kitx_dict I.kIn ⟨o,h1,h2.1⟩ e (fun z=>nomatch z) h
 |@ins a C dx fs ea cl ha hn htk hm =>
  cases (show u=Value.ref a from rx)
  obtain ⟨mA,O,_⟩:=ins_get I.hok ea
  obtain ⟨od,J,_⟩:=O.look
  exact PySem.W.kia_one (PySem.W.kitx_own (cl.get _) cl.hd ha hn htk hm) I.kIn J e (fun z=>nomatch z) h
end
end L2
namespace L2
open PySem PySem.Spec PyProof.Rows
structure Room(k:Nat)(A:Around):Prop where
 hd:A.handled=none
 dp:A.depth + 3 * k + 5 < recursionLimit
 un:A.units + 16 * k + 200 < cLine
theorem Room.mono{j k:Nat}{A:Around}(r:Room k A)(h:j ≤ k):Room j A:=⟨r.hd,by have:=r.dp;omega,by have:=r.un;omega⟩
theorem Room.deeper{k:Nat}{A:Around}(r:Room (k + 1) A)(env:Env):Room k (A.deeper env) :=
 ⟨r.hd,by have:=r.dp;show A.depth + 1 + 3 * k + 5 < _;omega,by have:=r.un;show A.units + 3 + 16 * k + 200 < _;omega⟩
theorem Room.depth{k:Nat}{A:Around}(r:Room k A):A.depth < recursionLimit:=by have:=r.dp;omega
theorem Room.units{k:Nat}{A:Around}(r:Room k A):A.units + 64 < cLine:=by have:=r.un;omega
noncomputable def tNil:TA:=fun _ H Q=>Q [] H
noncomputable def tCons(ta:TE)(tr:TA):TA:=fun σ H Q=>ta σ H fun x H1=>tr σ H1 fun xs H2=>Q (x :: xs) H2
section
variable {X:Cx} {e:Expr} {es:List Expr} {te:TE} {t:TA} {pos:Pos}
theorem pa_nil:PA X [] tNil:=fun _ _ _ _ H Q I h=>Calls.spliced_nil ⟨[],H,I,.nil,h⟩
theorem pa_cons(ha:PE X e te)(hr:PA X es t)(hs:starEach (e :: es) X.env=(false,eval e X.env) :: starEach es X.env:=by rfl):PA X (e :: es) (tCons te t):=by
 intro pos pins s σ H Q I h
 rw [hs]
 show wpAny _ _ (spliced ((false,eval e X.env) :: backTo pos (starEach es X.env))) _ _ s
 refine Calls.spliced_cons (thn (ha pins s σ H _ I h) fun u s1 zz0=>?_)
 obtain ⟨x,H1,I1,r1,q1⟩:=zz0
 exact thn (hr pos pins s1 σ H1 _ I1 q1) fun us s2 ⟨xs,H2,I2,r2,q2⟩=>⟨x :: xs,H2,I2,.cons r1 r2,q2⟩
noncomputable def tTup(t:TA):TE:=fun σ H Q=>t σ H fun xs H1=>xs.length ≤ sizeLine∧∀ p,H1 p=none→Q (.ref p) (upd H1 p (.tup xs))
noncomputable def tLst(t:TA):TE:=fun σ H Q=>t σ H fun xs H1=>xs.length ≤ sizeLine∧∀ p,H1 p=none→Q (.ref p) (upd H1 p (.lst xs))
theorem pe_tup{x1}(h:PA X es t):PE X (.Tuple es x1 pos) (tTup t):=by
 intro pins s σ H Q I hq
 refine wpAny_Tuple_spliced (thn (h pos pins s σ H _ I hq) fun us s1 ⟨xs,H1,I1,r,z,q⟩=>⟨by rw [← r.length];exact z,?_⟩)
 have hf:H1 s1.heap.objs.size=none:=I1.hok.fresh (Nat.le_refl _)
 refine ⟨.ref s1.heap.objs.size,upd H1 s1.heap.objs.size (.tup xs),I1.laid (t':=s1.toks) (fun b u e=>Heap.get?_push_of_some _ e) (Nat.le_refl _) ?_,rfl,q _ hf⟩
 exact ⟨z,us,r,⟨_,Heap.get?_push_size _ rfl,rfl,_,rfl⟩⟩
theorem pe_lst(h:PA X es t):PE X (.List es pos) (tLst t):=by
 intro pins s σ H Q I hq
 refine wpAny_List_spliced (thn (h pos pins s σ H _ I hq) fun us s1 ⟨xs,H1,I1,r,z,q⟩=>⟨by rw [← r.length];exact z,?_⟩)
 have hf:H1 s1.heap.objs.size=none:=I1.hok.fresh (Nat.le_refl _)
 refine ⟨.ref s1.heap.objs.size,upd H1 s1.heap.objs.size (.lst xs),I1.laid (t':=s1.toks) (fun b u e=>Heap.get?_push_of_some _ e) (Nat.le_refl _) ?_,rfl,q _ hf⟩
 exact ⟨z,us,0,r,Heap.get?_push_size _ rfl⟩
end
noncomputable abbrev Sp:=List V→Hp→VK→XK→Prop
noncomputable abbrev CXT:=List Env→Hp→Shared→XK→Value→Shared→Prop
structure Env0(P:Program)(w:World)(K:PySem.W.Frag)(mg:Str→Option Value)(base:Heap)(A:Around)(outer:List Env)(s:Shared)(H:Hp):Prop where
 frames:A.frames=some outer
 mod:Mod K mg base
 bs:∀ b o,base.get? b=some o→s.heap.get? b=some o∧H b=none
 bsz:base.objs.size ≤ s.heap.objs.size
 funs:s.heap.FunFrames base outer
 frf:∀ b ∈ frs outer,H b=none
 hok:HOk P w H s.heap
 bare:AllBare s.gens
noncomputable def CE(outer:List Env)(P:Program)(w:World)(H:Hp)(s:Shared)(Q:VK)(u:Value)(s':Shared):Prop :=
 ∃ v H',s'.os=s.os∧AllBare s'.gens∧Un (frs outer) [] H H' s.heap s'.heap∧HOk P w H' s'.heap∧RelV v u∧Q v H'
noncomputable def CR(CX:CXT)(outer:List Env)(P:Program)(w:World)(H:Hp)(s:Shared)(Q:VK)(E:XK)(r:Result)(s':Shared):Prop :=
 match r with
 |.ok (.ret u)=>CE outer P w H s Q u s'
 |.ok _=>False
 |.error e=>CX outer H s E e s'
structure FnOk(P:Program)(w:World)(K:PySem.W.Frag)(mg:Str→Option Value)(base:Heap)(CX:CXT)(k:Nat)(f:Addr)(fd:FuncData)(ps:List Str)(sp:Sp):Prop where
 len:∀ vs H Q E,sp vs H Q E→vs.length=ps.length
 run:∀ (A:Around) (outer:List Env) (s:Shared) (H:Hp) (args:Args) (us:List Value) (vs:List V) (Q:VK) (E:XK),Room k A→Env0 P w K mg base A outer s H→BindsTo s fd args (ps.zip us)→Vals vs us→sp vs H Q E →
  codeAny (model P w) A (.call (.ref f) args) (CR CX outer P w H s Q E) s
section
variable {X:Cx} {pins:List (Addr×Obj)} {σ:St} {H:Hp} {s s':Shared}
theorem Inv.env0(I:Inv X pins σ H s):Env0 X.prog X.w X.K X.mg X.base X.A X.stack s H :=
 ⟨I.ok.frames,I.ok.mod,I.bs,Nat.le_trans I.ok.bsz I.sz,I.stack,I.stkFree,I.hok,I.bare⟩
theorem Inv.after{Q:VK}{u:Value}(I:Inv X pins σ H s)(h:CE X.stack X.prog X.w H s Q u s'):EP X pins σ Q u s':=by
 obtain ⟨v,H',os,bare,un,hok,r,q⟩:=h
 obtain ⟨hh,g,d,t,os'⟩:=s'
 obtain rfl:os'=s.os:=os
 exact ⟨v,H',I.call (h':=hh) (g':=g) (d':=d) (t':=t) (ch:=[]) un hok bare (fun b z=>absurd z (by simp)),r,q⟩
end
noncomputable def tCall(sp:Sp)(dvs:List V)(E:XK)(t:TA):TE:=fun σ H Q=>t σ H fun vs H1=>sp (vs ++ dvs) H1 Q E
noncomputable def Binds(K:PySem.W.Frag)(fd:FuncData)(ps:List Str)(ds:List Value):Prop :=
 ∀ (s:Shared) (us:List Value),K.In s.heap→(us ++ ds).length=ps.length→BindsTo s fd ⟨us,[]⟩ (ps.zip (us ++ ds))
theorem Binds.all{K:PySem.W.Frag}{fd:FuncData}{ps:List Str}(h:∀ us:List Value,us.length=ps.length→bindArgs fd ⟨us,[]⟩=pure (ps.zip us)):Binds K fd ps []:=fun s us _ hl=>by
 rw [List.append_nil] at hl ⊢
 exact .of_eq (h us hl)
noncomputable def Passes(CX:CXT)(X:Cx)(E:XK):Prop:=∀ (pins:List (Addr×Obj)) (σ:St) (H:Hp) (s:Shared) (e:Value) (s':Shared),Inv X pins σ H s→CX X.stack H s E e s'→X.xe e s'
section
variable {X:Cx} {CX:CXT} {k:Nat} {f C:Addr} {fd:FuncData} {ps:List Str} {sp:Sp} {dvs:List V} {ds:List Value} {E:XK} {x m:Str} {p pos apos:Pos} {e o:Expr} {es:List Expr} {ta:TE} {t:TA}
theorem run_fn{pins:List (Addr×Obj)}{σ:St}{H:Hp}{s:Shared}{Q:VK}{us:List Value}{vs:List V}(F:FnOk X.prog X.w X.K X.mg X.base CX k f fd ps sp)(hr:Room k X.A)(hb:Binds X.K fd ps ds)(hd:Vals dvs ds)(hx:Passes CX X E)
  (I:Inv X pins σ H s) (r:Vals vs us) (h:sp (vs ++ dvs) H Q E):wpAny (model X.prog X.w) X.A (call (.ref f) us) (EP X pins σ Q) X.xe s:=by
 have r2:Vals (vs ++ dvs) (us ++ ds):=r.append hd
 have hl:(us ++ ds).length=ps.length:=by rw [← r2.length];exact F.len _ _ _ _ h
 refine wpAny_call (codeAny_mono (F.run X.A X.stack s H ⟨us,[]⟩ (us ++ ds) (vs ++ dvs) Q E hr I.env0 (hb s us I.kIn hl) r2 h) fun r s' hq=>?_)
 cases r with
 |error e=>exact hx pins σ H s e s' I hq
 |ok fl =>
  cases fl with
  |ret u=>exact I.after hq
  |next=>exact False.elim hq
  |brk=>exact False.elim hq
  |cont=>exact False.elim hq
theorem pe_call(F:FnOk X.prog X.w X.K X.mg X.base CX k f fd ps sp)(hr:Room k X.A)(hg:Gl X x)(hm:X.mg x=some (.ref f))(hk:PySem.W.keepIn X.K (.ref f)=true)(hb:Binds X.K fd ps ds)(hd:Vals dvs ds)(hx:Passes CX X E)
  (ha:PA X (e :: es) t) (hdb:(x == ("__debug__":Str))=false:=by decide) (he:starEach (e :: es) X.env=(false,eval e X.env) :: starEach es X.env:=by rfl) (hpl:(backTo pos (starEach es X.env)).any (·.1)=false:=by rfl) :
  PE X (.Call (.Name x p) (e :: es) [] pos) (tCall sp dvs E t):=by
 intro pins s σ H Q I h
 refine wpAny_Call_Name_kw (ld_glob I hg hm ?_ hdb)
 refine PySem.W.callWith_K (h₀:=X.base) I.ok.mod.kin hk (thn (ha pos pins s σ H _ I h) fun us s1 ⟨vs,H1,I1,r,q⟩=>⟨I1.kIn,?_⟩) he hpl
 exact run_fn F hr hb hd hx I1 r q
end
section
variable {X:Cx} {CX:CXT} {k:Nat} {f C:Addr} {fd:FuncData} {ps ks:List Str} {sp:Sp} {E:XK} {x m:Str} {p pos apos kpos:Pos} {e o:Expr} {es:List Expr} {kws:List Keyword} {te ta:TE} {t tk:TA} {nm:Option Str}
variable {g:List Value→List Value→List Value} {gV:List V→List V→List V}
end
structure FnScope(N P:List Str)(sc:Scope):Prop where
 kind:sc.kind = .function
 co:sc.isCoroutine=false
 gen:sc.isGenerator=false
 nd:N.Nodup
 pre:N.take P.length=P
 par:∀ x ∈ P,sc.names.lookup x=some .local∨sc.names.lookup x=some .cell
 nofree:∀ y ∈ sc.names,y.2 ≠ .free
theorem bindL_out{kindOf:Str→Option NameKind}{x:Str}:∀ {binds:List (Str×Value)} {m:Str→Option Value},(∀ v,(x,v) ∉ binds)→bindL kindOf binds m x=m x
 |[],_,_=>rfl
 |(n,v) :: r,m,h=>by
  unfold bindL
  rw [bindL_out fun w hw=>h w (List.mem_cons_of_mem _ hw)]
  split
  ·have:x ≠ n:=by rintro rfl;exact h v List.mem_cons_self
   simp [this]
  ·rfl
theorem bindC_out{kindOf:Str→Option NameKind}{x:Str}:∀ {binds:List (Str×Value)} {m:Str→Option Value},(∀ v,(x,v) ∉ binds)→bindC kindOf binds m x=m x
 |[],_,_=>rfl
 |(n,v) :: r,m,h=>by
  unfold bindC
  rw [bindC_out fun w hw=>h w (List.mem_cons_of_mem _ hw)]
  split
  ·rfl
  ·have:x ≠ n:=by rintro rfl;exact h v List.mem_cons_self
   simp [this]
theorem bindL_get{kindOf:Str→Option NameKind}{x:Str}{v:Value}:∀ {P:List Str} {vs:List Value} {i:Nat} {m:Str→Option Value},P.Nodup→P[i]?=some x→vs[i]?=some v→kindOf x=some .local →
  bindL kindOf (P.zip vs) m x=some v
 |[],_,_,_,_,h,_,_=>by simp at h
 |_ :: _,[],_,_,_,_,h,_=>by simp at h
 |p :: P,w :: vs,0,m,nd,h1,h2,hk=>by
  simp at h1 h2;subst h1;subst h2
  show bindL kindOf ((p,w) :: P.zip vs) m p=_
  unfold bindL
  rw [bindL_out fun v hv=>(List.nodup_cons.mp nd).1 (List.of_mem_zip hv).1,if_pos hk]
  simp
 |p :: P,w :: vs,i + 1,m,nd,h1,h2,hk=>by
  show bindL kindOf ((p,w) :: P.zip vs) m x=_
  unfold bindL
  exact bindL_get (i:=i) (List.nodup_cons.mp nd).2 (by simpa using h1) (by simpa using h2) hk
theorem bindC_get{kindOf:Str→Option NameKind}{x:Str}{v:Value}:∀ {P:List Str} {vs:List Value} {i:Nat} {m:Str→Option Value},P.Nodup→P[i]?=some x→vs[i]?=some v→kindOf x ≠ some .local →
  bindC kindOf (P.zip vs) m x=some v
 |[],_,_,_,_,h,_,_=>by simp at h
 |_ :: _,[],_,_,_,_,h,_=>by simp at h
 |p :: P,w :: vs,0,m,nd,h1,h2,hk=>by
  simp at h1 h2;subst h1;subst h2
  show bindC kindOf ((p,w) :: P.zip vs) m p=_
  unfold bindC
  rw [bindC_out fun v hv=>(List.nodup_cons.mp nd).1 (List.of_mem_zip hv).1,if_neg hk]
  simp
 |p :: P,w :: vs,i + 1,m,nd,h1,h2,hk=>by
  show bindC kindOf ((p,w) :: P.zip vs) m x=_
  unfold bindC
  exact bindC_get (i:=i) (List.nodup_cons.mp nd).2 (by simpa using h1) (by simpa using h2) hk
noncomputable def start(N:List Str)(vs:List V):St:=vs.map some ++ List.replicate (N.length - vs.length) none
noncomputable def cxOf(CX:CXT)(P:Program)(w:World)(K:PySem.W.Frag)(mg:Str→Option Value)(base:Heap)(N:List Str)(qual:Str)(scope:Scope)(f:Addr)(cd:Value)(A:Around)(outer:List Env)(s:Shared)(H:Hp)(E:XK):Cx where
 prog:=P
 w:=w
 K:=K
 mg:=mg
 base:=base
 A:=A.deeper (envOfC qual scope s.heap.objs.size f cd)
 N:=N
 s₀:=s
 H₀:=H
 env:=envOfC qual scope s.heap.objs.size f cd
 outer:=outer
 stack:=envOfC qual scope s.heap.objs.size f cd :: outer
 ex:=[]
 calm:=true
 fn:=fun _=>true
 pn:=[]
 xe:=fun e s'=>wpAny (model P w) (A.deeper (envOfC qual scope s.heap.objs.size f cd)) (leaving (envOfC qual scope s.heap.objs.size f cd) e) (fun _ s''=>CX outer H s E e s'') (fun e' s''=>CX outer H s E e' s'') s'
theorem cell_has{sc:Scope}{n:Nat}{x:Str}(h:sc.names.lookup x=some .cell):∃ c,(cellsFrom n sc.names []).lookup x=some c:=by
 have q:=PySem.W.cellsFrom_some sc.names n [] (.inl h)
 exact Option.isSome_iff_exists.mp q
theorem inv_start{CX:CXT}{P:Program}{w:World}{K:PySem.W.Frag}{mg:Str→Option Value}{base:Heap}{N ps:List Str}{qual:Str}{scope:Scope}{f:Addr}{cd:Value}{A:Around}{outer:List Env}{s s1:Shared}{H:Hp}{E:XK}{us:List Value}{vs:List V}
  (S:FnScope N ps scope) (hd:A.handled=none) (e0:Env0 P w K mg base A outer s H) (hl:vs.length=ps.length) (r:Vals vs us)
  (x:InCallC s s.heap.objs.size (bindL (envOfC qual scope s.heap.objs.size f cd).kindOf (ps.zip us) fun _=>none) (cellsFrom (s.heap.objs.size + 1) scope.names []) (bindC (envOfC qual scope s.heap.objs.size f cd).kindOf (ps.zip us) fun _=>none) s1) :
  Inv (cxOf CX P w K mg base N qual scope f cd A outer s H E) [] (start N vs) H s1:=by
 have hpl:ps.length ≤ N.length:=by have:=congrArg List.length S.pre;rw [List.length_take] at this;omega
 obtain ⟨h1,tk,rfl,hk⟩:=x.done
 have noA:∀ b:Addr,b ∉ (cxOf CX P w K mg base N qual scope f cd A outer s H E).ex:=fun b z=>absurd (show b ∈ ([]:List Addr) from z) (by simp)
 refine ⟨⟨e0.mod,S.kind,rfl,rfl,Nat.le_refl _,fun y z c h1 h2=>?_,fun y hy=>?_,fun y c _ h=>?_,fun _=>hd,Around.frames_deeper e0.frames,.inr ⟨rfl,rfl⟩,fun b z=>absurd z (noA b),e0.bs,e0.bsz,fun b _ _=>noA b,fun b z=>absurd z (noA b),e0.funs,e0.frf⟩,
  rfl,e0.bare,Un.kept hk,⟨_,x.toInCall.ns,fun i y v h1 h2 h3=>?_⟩,fun y c h=>⟨_,x.cell y c h⟩,e0.hok.fresh (Nat.le_refl _),fun y c h=>?_,fun p hp=>absurd (show p ∈ ([]:List (Addr×Obj)) from hp) (by simp),e0.hok.kept hk,?_⟩
 ·exact name_of_addr x.apart (PySem.mem_of_lookup h1) (PySem.mem_of_lookup h2)
 ·have hy:scope.names.lookup y=some .cell∨scope.names.lookup y=some .free:=hy
  rcases hy with hy | hy
  ·exact cell_has hy
  ·exact absurd rfl (S.nofree _ (PySem.mem_of_lookup hy))
 ·exact Nat.le_of_lt (x.above y c (PySem.mem_of_lookup h))
 ·have hi:i < vs.length:=by
   unfold start at h2
   by_cases hi:i < vs.length
   ·exact hi
   ·rw [List.getElem?_append_right (by simpa using hi)] at h2
    rw [List.getElem?_replicate] at h2
    split at h2 <;> cases h2
  have ha:vs[i]?=some v:=by
   unfold start at h2
   rw [List.getElem?_append_left (by simpa using hi),List.getElem?_map] at h2
   cases e:vs[i]? with
   |none=>rw [e] at h2;cases h2
   |some a=>rw [e] at h2;cases h2;rfl
  obtain ⟨u,hu,rv⟩:=r.get ha
  have hp:ps[i]?=some y:=by
   rw [← S.pre,List.getElem?_take_of_lt (by omega)];exact h1
  have ndP:ps.Nodup:=by rw [← S.pre];exact S.nd.sublist (List.take_sublist _ _)
  refine ⟨u,rv,?_⟩
  rcases S.par y (List.mem_of_getElem? hp) with k | k
  ·exact .inl ⟨k,bindL_get ndP hp hu k⟩
  ·obtain ⟨c,e⟩:=cell_has (n:=s.heap.objs.size + 1) k
   refine .inr ⟨.inl k,c,e,?_⟩
   have q:=x.cell y c e
   rw [bindC_get ndP hp hu (by show scope.names.lookup y ≠ _;rw [k];decide)] at q
   exact q
 ·exact e0.hok.fresh (Nat.le_of_lt (x.above y c (PySem.mem_of_lookup h)))
 ·unfold start
  show _=N.length
  rw [List.length_append,List.length_map,List.length_replicate]
  omega
theorem fn_of{CX:CXT}{P:Program}{w:World}{K:PySem.W.Frag}{mg:Str→Option Value}{base:Heap}{k:Nat}{f:Addr}{name qual:Str}{params:Arguments}{body:List Stmt}{scope:Scope}{dV kV doc pm cdv ct oc:Value}{an od:Option Addr}
  {osl:Array (Option Value)} {N ps:List Str} {sp:Sp} (lk:K.lookup f=some ⟨oc,od,.func (PySem.W.fnOf name qual params body scope dV kV doc pm an cdv ct),osl⟩) (hcd:PySem.W.codeIn K cdv qual=true) (S:FnScope N ps scope)
  (len:∀ vs H Q E,sp vs H Q E→vs.length=ps.length)
  (hbody:∀ (A:Around) (outer:List Env) (s:Shared) (H:Hp) (vs:List V) (Q:VK) (E:XK),Room k (A.deeper (envOfC qual scope s.heap.objs.size f cdv))→sp vs H Q E →
   ∃ t,PSs (cxOf CX P w K mg base N qual scope f cdv A outer s H E) body t∧t { nx:=fun _ H'=>Q .non H',rt:=Q } (start N vs) H) :
  FnOk P w K mg base CX (k + 1) f (PySem.W.fnOf name qual params body scope dV kV doc pm an cdv ct) ps sp:=by
 refine ⟨len,fun A outer s H args us vs Q E hr e0 hb r hsp=>?_⟩
 have hl:=len _ _ _ _ hsp
 have KX:K.In s.heap:=e0.mod.kin.keeps fun b o e=>(e0.bs b o e).1
 have lim:s.heap.NoLimit:=e0.mod.nolimit.keeps fun b o e=>(e0.bs b o e).1
 have hkind:∀ y ∈ ps.zip us,scope.names.lookup y.1=some .local∨(scope.names.lookup y.1=some .cell∧((cellsFrom (s.heap.objs.size + 1) scope.names []).lookup y.1).isSome=true):=fun zz0 hy=>by
  obtain ⟨n,v⟩:=zz0
  rcases S.par n (List.of_mem_zip hy).1 with q | q
  ·exact .inl q
  ·exact .inr ⟨q,PySem.W.cellsFrom_some _ _ _ (.inl q)⟩
 refine codeAny_call_function hr.depth (KX _ _ lk) rfl S.co S.gen rfl (PySem.W.codeRec_of KX hcd) (hb _ _ _ _ ?_)
 refine wpAny_newFunctionEnv_cells S.kind hkind fun env he s1 x=>?_
 subst he
 refine ⟨lim.keeps x.toInCall.keep,codeAny_func ?_⟩
 obtain ⟨t,ht,hq⟩:=hbody A outer s H vs Q E (hr.deeper _) hsp
 have I:Inv (cxOf CX P w K mg base N qual scope f cdv A outer s H E) [] (start N vs) H s1:=inv_start S hr.hd e0 hl r x
 refine wpAny_mono (ht [] s1 (start N vs) H _ I hq) (fun fl s' hs=>?_) fun e s' hs=>hs
 have fin:∀ {σ':St} {H':Hp} {v:V} {u:Value},Inv (cxOf CX P w K mg base N qual scope f cdv A outer s H E) [] σ' H' s'→RelV v u→Q v H'→CE outer P w H s Q u s' :=
  fun {σ' H' v u} J rv q=>⟨v,H',J.os,J.bare,J.base,J.hok,rv,q⟩
 cases fl with
 |ret u =>
  obtain ⟨v,σ',H',J,rv,q⟩:=hs
  exact fin J rv q
 |next =>
  obtain ⟨σ',H',J,q⟩:=hs
  exact fin (v:=V.non) (u:=Value.none) J rfl q
 |brk =>
  obtain ⟨_,_,_,q⟩:=hs
  exact False.elim q
 |cont =>
  obtain ⟨_,_,_,q⟩:=hs
  exact False.elim q
end L2
namespace L2
open PySem PySem.Spec PyProof.Rows
section
variable {X:Cx} {x:Str} {p pos:Pos} {e:Expr} {es:List Expr} {t:TA} {id T:String} {r:List V→Hp→VK→Prop}
noncomputable def tCB(r:List V→Hp→VK→Prop)(t:TA):TE:=fun σ H Q=>t σ H fun vs H1=>r vs H1 Q
theorem pe_callB(hc:CallR X (.builtin id) r)(hg:Gl X x)(hm:X.mg x=none)(hv:bootBuiltins x=some (.builtin id))(ha:PA X (e :: es) t)(hn:x ≠ "__name__":=by decide)(hdb:(x == ("__debug__":Str))=false:=by decide)
  (he:starEach (e :: es) X.env=(false,eval e X.env) :: starEach es X.env:=by rfl) (hpl:(backTo pos (starEach es X.env)).any (·.1)=false:=by rfl):PE X (.Call (.Name x p) (e :: es) [] pos) (tCB r t):=by
 intro pins s σ H Q I h
 refine wpAny_Call_Name_kw (ld_blt I hg hm hv ?_ hn hdb)
 exact PyProof.Rows.callWith_builtin1 (thn (ha pos pins s σ H _ I h) fun us s1 ⟨vs,H1,I1,r1,q1⟩=>hc pins s1 σ H1 vs us Q I1 r1 q1) he hpl
theorem pe_callTy(hc:CallR X (.type T) r)(hg:Gl X x)(hm:X.mg x=none)(hv:bootBuiltins x=some (.type T))(ha:PA X (e :: es) t)(hn:x ≠ "__name__":=by decide)(hdb:(x == ("__debug__":Str))=false:=by decide)
  (he:starEach (e :: es) X.env=(false,eval e X.env) :: starEach es X.env:=by rfl) (hpl:(backTo pos (starEach es X.env)).any (·.1)=false:=by rfl):PE X (.Call (.Name x p) (e :: es) [] pos) (tCB r t):=by
 intro pins s σ H Q I h
 refine wpAny_Call_Name_kw (ld_blt I hg hm hv ?_ hn hdb)
 exact PyProof.Rows.callWith_type1 (thn (ha pos pins s σ H _ I h) fun us s1 ⟨vs,H1,I1,r1,q1⟩=>hc pins s1 σ H1 vs us Q I1 r1 q1) he hpl
end
end L2
namespace L2
open PySem PySem.Spec PyProof.Rows
section
variable {κ:Type} [DecidableEq κ]
noncomputable def valV(kvs:List (κ×V))(k:κ):Option V:=(kvs.find? fun kv=>decide (kv.1=k)).map (·.2)
noncomputable def putK(kvs:List (κ×V))(k:κ)(v:V):List (κ×V) :=
 if (kvs.any fun kv=>decide (kv.1=k))=true then kvs.map (fun kv=>if kv.1=k then (kv.1,v) else kv) else kvs ++ [(k,v)]
theorem valV_pos{p:κ×V}{r:List (κ×V)}{k:κ}(e:p.1=k):valV (p :: r) k=some p.2:=by simp [valV,List.find?_cons,e]
theorem valV_neg{p:κ×V}{r:List (κ×V)}{k:κ}(e:¬ p.1=k):valV (p :: r) k=valV r k:=by simp [valV,List.find?_cons,e]
theorem length_putK(kvs:List (κ×V))(k:κ)(v:V):(putK kvs k v).length ≤ kvs.length + 1:=by
 unfold putK
 split
 ·rw [List.length_map];omega
 ·rw [List.length_append,List.length_cons,List.length_nil];omega
theorem RelO.getD{o:Option V}{u:Option Value}{d:V}{d':Value}(r:RelO o u)(rd:RelV d d'):RelV (o.getD d) (u.getD d'):=by
 cases o with
 |none=>cases u with
  |none=>exact rd
  |some _=>exact (show False from r).elim
 |some _=>cases u with
  |none=>exact (show False from r).elim
  |some _=>exact r
theorem KV.val{kvs:List (κ×V)}{vs:List (κ×Value)}(r:KV kvs vs)(k:κ):RelO (valV kvs k) (valueAt vs k):=by
 unfold KV at r
 induction r with
 |nil=>exact True.intro
 |@cons p q ps qs h t ih =>
  obtain ⟨h1,h2⟩:=h
  by_cases e:p.1=k
  ·have e':q.1=k:=h1.symm.trans e
   have b:valueAt (q :: qs) k=some q.2:=by simp [valueAt,List.find?_cons,e']
   rw [valV_pos e,b];exact h2
  ·have e':¬ q.1=k:=fun z=>e (h1.trans z)
   have b:valueAt (q :: qs) k=valueAt qs k:=by simp [valueAt,List.find?_cons,e']
   rw [valV_neg e,b];exact ih
theorem KV.any{kvs:List (κ×V)}{vs:List (κ×Value)}(r:KV kvs vs)(k:κ):(kvs.any fun kv=>decide (kv.1=k))=vs.any fun kv=>decide (kv.1=k):=by
 unfold KV at r
 induction r with
 |nil=>rfl
 |cons h t ih=>rw [List.any_cons,List.any_cons,ih,h.1]
theorem KV.repl{kvs:List (κ×V)}{vs:List (κ×Value)}(r:KV kvs vs)(k:κ){y:V}{u:Value}(ry:RelV y u) :
  KV (kvs.map fun kv=>if kv.1=k then (kv.1,y) else kv) (vs.map fun kv=>if kv.1=k then (kv.1,u) else kv):=by
 unfold KV at r ⊢
 induction r with
 |nil=>exact .nil
 |@cons p q ps qs h t ih =>
  rw [List.map_cons,List.map_cons]
  refine .cons ?_ ih
  obtain ⟨h1,h2⟩:=h
  by_cases e:p.1=k
  ·rw [if_pos e,if_pos (h1.symm.trans e)];exact ⟨h1,ry⟩
  ·rw [if_neg e,if_neg (fun z=>e (h1.trans z))];exact ⟨h1,h2⟩
theorem KV.put{kvs:List (κ×V)}{vs:List (κ×Value)}(r:KV kvs vs)(k:κ){y:V}{u:Value}(ry:RelV y u):KV (putK kvs k y) (stored vs k u):=by
 unfold putK stored
 rw [r.any k]
 by_cases e:(vs.any fun kv=>decide (kv.1=k))=true
 ·rw [if_pos e,if_pos e];exact r.repl k ry
 ·rw [if_neg e,if_neg e];exact Paired.snoc r ⟨rfl,ry⟩
end
theorem kV_is{P:Program}{w:World}{k:Key}{u:Value}(r:RelV (kV k) u):(mixKind P w).is k u=true:=by
 cases k with
 |inl i=>obtain ⟨t,e⟩:=(show ∃ t,u=Value.int i t from r);subst e;exact mixKind_int P w i t
 |inr x=>obtain ⟨t,e⟩:=(show ∃ t,u=Value.str x t from r);subst e;exact mixKind_str P w x t
theorem items_are{P:Program}{w:World}:∀ {ks:List Key} {us:List Value},Vals (ks.map kV) us→ItemsAre (mixKind P w) ks us
 |[],_,r=>by rw [List.map_nil] at r;cases r;exact .nil
 |k :: ks,_,r=>by
  rw [List.map_cons] at r
  cases r with
  |cons h t=>exact .cons (kV_is h) (items_are t)
noncomputable abbrev KT(H:Hp):List (List Key×V)→List (List Key×Addr×Value)→Prop:=Paired fun p q=>p.1=q.1∧H q.2.1=some (.tup (p.1.map kV))∧RelV p.2 q.2.2
theorem KT.val{H:Hp}{kvs:List (List Key×V)}{xs:List (List Key×Addr×Value)}(r:KT H kvs xs)(k:List Key):RelO (valV kvs k) ((atKey xs k).map (·.2)):=by
 induction r with
 |nil=>exact True.intro
 |@cons p q ps qs h t ih =>
  obtain ⟨h1,_,h2⟩:=h
  by_cases e:p.1=k
  ·have e':q.1=k:=h1.symm.trans e
   have b:atKey (q :: qs) k=some q.2:=by simp [atKey,List.find?_cons,e']
   rw [valV_pos e,b];exact h2
  ·have e':¬ q.1=k:=fun z=>e (h1.trans z)
   have b:atKey (q :: qs) k=atKey qs k:=by simp [atKey,List.find?_cons,e']
   rw [valV_neg e,b];exact ih
theorem KT.keeps{H H':Hp}{kvs:List (List Key×V)}{xs:List (List Key×Addr×Value)}(r:KT H kvs xs)(ht:∀ b ys,H b=some (.tup ys)→H' b=some (.tup ys)):KT H' kvs xs :=
 Paired.mapP r fun _ _ z=>⟨z.1,ht _ _ z.2.1,z.2.2⟩
section
variable {P:Program} {w:World} {H:Hp} {h:Heap} {a:Addr}
theorem rd_of{u:HO}(ok:HOk P w H h)(e:Rd H a u):ObjOk P w H h a u:=e.ok ok
theorem dk_rd{kvs:List (Key×V)}(ok:HOk P w H h)(e:Rd H a (.dK kvs)):kvs.length ≤ sizeLine∧(a == sysModules)=false∧∃ vs,KV kvs vs∧h.DictOf (mixKind P w) a vs :=
 show ObjOk P w H h a (.dK kvs) from rd_of ok e
theorem dk_of{kvs:List (Key×V)}(ok:HOk P w H h)(e:H a=some (.dK kvs)):kvs.length ≤ sizeLine∧(a == sysModules)=false∧∃ vs,KV kvs vs∧h.DictOf (mixKind P w) a vs:=dk_rd ok (.inl e)
theorem key_of{ks:List Key}(ok:HOk P w H h)(e:H a=some (.tup (ks.map kV))):(tupleKind (mixKind P w)).is h ks a:=by
 obtain ⟨_,its,r,o,h1,h2,n,h3⟩:=(show ObjOk P w H h a (.tup (ks.map kV)) from ok a _ e)
 exact ⟨o,its.toArray,n,h1,h2,h3,by simpa using items_are r⟩
theorem dt_rd{kvs:List (List Key×V)}(ok:HOk P w H h)(e:Rd H a (.dT kvs)):kvs.length ≤ sizeLine∧(a == sysModules)=false ∧
  ∃ xs,KT H kvs xs∧h.DictOfH (tupleKind (mixKind P w)) a xs:=by
 obtain ⟨z,y,xs,r,o,es,ep,h1,h2,h3,h4,h5⟩:=(show ObjOk P w H h a (.dT kvs) from rd_of ok e)
 refine ⟨z,y,xs,r,o,es,ep,h1,h2,h3,h4,fun x hx=>?_,h5⟩
 have all:∀ {l:List (List Key×V)} {m:List (List Key×Addr×Value)},KT H l m→∀ x ∈ m,(tupleKind (mixKind P w)).is h x.1 x.2.1:=by
  intro l m q
  induction q with
  |nil=>intro x hx;exact nomatch hx
  |@cons p q ps qs hq t ih =>
   intro x hx
   rcases List.mem_cons.mp hx with e | hx
   ·subst e
    exact key_of ok (by rw [← hq.1];exact hq.2.1)
   ·exact ih x hx
 exact all r x hx
end
noncomputable def DGet(H:Hp)(a:Addr)(y:V)(r:Option V):Prop :=
 (∃ kvs k,Rd H a (.dK kvs)∧y=kV k∧r=valV kvs k)∨∃ kvs k b,Rd H a (.dT kvs)∧y = .ref b∧H b=some (.tup (k.map kV))∧r=valV kvs k
section
variable {X:Cx} {pins:List (Addr×Obj)} {σ:St} {H:Hp} {s:Shared} {a:Addr} {y v:V} {u r:Value} {o:Option V} {A:Around} {E:Value→Shared→Prop}
theorem Inv.big(I:Inv X pins σ H s):sysModules < s.heap.objs.size:=by
 have h:mainGlobals < s.heap.objs.size:=(I.mod.glob.keeps I.bk).lt
 exact Nat.lt_trans (by decide) h
theorem d_write{h':Heap}{t':Nat}{ob:HO}(I:Inv X pins σ H s)(mu:Mut (H a))(hs:Heap.SameBut a s.heap h')(he:∃ q,h'.get? a=some q)(new:ObjOk X.prog X.w (upd H a ob) h' a ob) :
  Inv X pins σ (upd H a ob) { s with heap:=h',toks:=t' } :=
 I.write (x:=a) (e:=a) mu (.inl rfl) (fun b q hb z=>(hs.2 b hb).trans z) he new
theorem dk_new{P:Program}{w:World}{H':Hp}{h':Heap}{kvs:List (Key×V)}{vs:List (Key×Value)}(z:kvs.length ≤ sizeLine)(hd:(a == sysModules)=false)(rel:KV kvs vs)(dd:h'.DictOf (mixKind P w) a vs) :
  ObjOk P w H' h' a (.dK kvs):=⟨z,hd,vs,rel,dd⟩
end
section
variable {X:Cx} {pins:List (Addr×Obj)} {σ:St} {H:Hp} {s:Shared} {a:Addr} {kvs:List (Key×V)} {k:Key} {u:Value} {A:Around} {E:Value→Shared→Prop}
end
section
variable {X:Cx} {o i e value:Expr} {pos pos' tpos:Pos} {td ty tv:TE}
end
theorem dk_empty{P:Program}{w:World}{H:Hp}(h:Heap)(hb:sysModules < h.objs.size):ObjOk P w H (h.push { cls:=.type "dict",data:=.dict #[] }) h.objs.size (.dK []) :=
 ⟨Nat.zero_le _,beq_eq_false_iff_ne.mpr (Ne.symm (Nat.ne_of_lt hb)),[],.nil,Heap.DictOf.new h⟩
section
variable {X:Cx} {pos:Pos}
end
noncomputable def tPairs:List (TE×TE)→St→Hp→(List (V×V)→Hp→Prop)→Prop
 |[],_,H,Q=>Q [] H
 |(tk,tv) :: r,σ,H,Q=>tk σ H fun x H1=>tv σ H1 fun y H2=>tPairs r σ H2 fun ps H3=>Q ((x,y) :: ps) H3
noncomputable abbrev VV:List (V×V)→List (Value×Value)→Prop:=Paired fun p q=>RelV p.1 q.1∧RelV p.2 q.2
noncomputable def PPs(X:Cx)(pos:Pos)(keys:List (Option Expr))(values:List Expr)(trs:List (TE×TE)):Prop :=
 ∀ (pins:List (Addr×Obj)) (s:Shared) (σ:St) (H:Hp) (Q:List (V×V)→Hp→Prop),Inv X pins σ H s→tPairs trs σ H Q →
  wpAny (model X.prog X.w) X.A (evalPairs (pairTrees keys values X.env pos)) (fun vs s'=>∃ ps H',Inv X pins σ H' s'∧VV ps vs∧Q ps H') X.xe s
theorem pps_nil{X:Cx}{pos:Pos}:PPs X pos [] [] []:=fun pins s σ H Q I h=>pairTrees_nil_walk ⟨[],H,I,.nil,h⟩
theorem pps_cons{X:Cx}{pos:Pos}{k v:Expr}{ks:List (Option Expr)}{vs:List Expr}{tk tv:TE}{trs:List (TE×TE)}(hk:PE X k tk)(hv:PE X v tv)(hr:PPs X pos ks vs trs) :
  PPs X pos (some k :: ks) (v :: vs) ((tk,tv) :: trs):=fun pins s σ H Q I h =>
 pairTrees_cons_walk (thn (hk pins s σ H _ I h) fun u s1 ⟨x,H1,I1,rx,q1⟩=>thn (hv pins s1 σ H1 _ I1 q1) fun w2 s2 ⟨y,H2,I2,ry,q2⟩ =>
  thn (hr pins s2 σ H2 _ I2 q2) fun ws s3 ⟨ps,H3,I3,rel,q3⟩=>⟨(x,y) :: ps,H3,I3,.cons ⟨rx,ry⟩ rel,q3⟩)
noncomputable def mergeK(kvs more:List (Key×V)):List (Key×V):=more.foldl (fun acc kv=>putK acc kv.1 kv.2) kvs
theorem KV.merge:∀ {more:List (Key×V)} {rs:List (Key×Value)} {kvs:List (Key×V)} {vs:List (Key×Value)},KV more rs→KV kvs vs→KV (mergeK kvs more) (merged vs rs):=by
 intro more rs kvs vs r
 unfold KV at r
 induction r generalizing kvs vs with
 |nil=>intro q;exact q
 |@cons p q ps qs h t ih =>
  intro r0
  have e:KV (putK kvs p.1 p.2) (stored vs q.1 q.2):=by
   have:=r0.put p.1 h.2
   rw [← h.1];exact this
  exact ih e
theorem length_mergeK:∀ (more kvs:List (Key×V)),(mergeK kvs more).length ≤ kvs.length + more.length
 |[],kvs=>by show kvs.length ≤ kvs.length + 0;omega
 |p :: r,kvs=>by
  have h1:=length_mergeK r (putK kvs p.1 p.2)
  have h2:=length_putK kvs p.1 p.2
  show (mergeK (putK kvs p.1 p.2) r).length ≤ _
  rw [List.length_cons];omega
theorem carries_of{P:Program}{w:World}:∀ {kvs:List (Key×V)} {ws:List (Value×Value)},VV (kvs.map fun kv=>(kV kv.1,kv.2)) ws→∃ rs,Carries (mixKind P w) ws rs∧KV kvs rs
 |[],_,r=>by rw [List.map_nil] at r;cases r;exact ⟨[],True.intro,.nil⟩
 |p :: kvs,_,r=>by
  rw [List.map_cons] at r
  cases r with
  |@cons a b as bs h t =>
   obtain ⟨rs,c,q⟩:=carries_of (P:=P) (w:=w) t
   obtain ⟨b1,b2⟩:=b
   exact ⟨(p.1,b2) :: rs,⟨kV_is h.1,rfl,c⟩,.cons ⟨rfl,h.2⟩ q⟩
noncomputable def tDisp(trs:List (TE×TE)):TE:=fun σ H Q=>∀ p,H p=none→tPairs trs σ (upd H p (.dK [])) fun ps H2=>H2 p=some (.dK [])∧∃ kvs:List (Key×V),ps=kvs.map (fun kv=>(kV kv.1,kv.2))∧kvs.length ≤ 15∧Q (.ref p) (upd H2 p (.dK (mergeK [] kvs)))
theorem pe_disp{X:Cx}{pos:Pos}{keys:List (Option Expr)}{values:List Expr}{trs:List (TE×TE)}(h:PPs X pos keys values trs)(hall:keys.all (·.isSome)=true)(hl:keys.length=values.length)(h0:keys ≠ [])
  (h15:keys.length ≤ 15):PE X (.Dict keys values pos) (tDisp trs):=by
 intro pins s σ H Q I q
 have hn:=I.hok.fresh (Nat.le_refl s.heap.objs.size)
 have I1:=I.laid (a:=s.heap.objs.size) (o:=.dK []) (h':=s.heap.push { cls:=.type "dict",data:=.dict #[] }) (t':=s.toks) (fun _ _ q=>Heap.get?_push_of_some _ q) (Nat.le_refl _) (dk_empty s.heap I.big)
 refine wpAny_Dict_walk (knd:=mixKind X.prog X.w) hall hl h0 h15 (thn (h pins _ σ _ _ I1 (q _ hn)) fun ws s2 zz0=>?_)
 obtain ⟨ps,H2,I2,rel,e,kvs,ep,lk,q2⟩:=zz0
 subst ep
 obtain ⟨rs,c,rk⟩:=carries_of (P:=X.prog) (w:=X.w) rel
 obtain ⟨z,hd,vs0,r0,dd⟩:=dk_of I2.hok e
 cases r0
 refine ⟨rs,c,dd,fun h' dd' hs=>⟨.ref s.heap.objs.size,_,?_,rfl,q2⟩⟩
 have hz:(mergeK [] kvs).length ≤ sizeLine:=by
  have h1:=length_mergeK kvs []
  rw [List.length_nil] at h1
  rw [sizeLine_eq];omega
 have he:∃ q,h'.get? s.heap.objs.size=some q:=let ⟨q,_,_,hq,_⟩:=dd';⟨q,hq⟩
 exact d_write I2 (by rw [e];exact True.intro) hs he (dk_new hz hd (rk.merge .nil) dd')
structure M2(X:Cx)(o:Expr)(m:Str)(apos:Pos)(e f:Expr)(cpos:Pos):Prop where
 base:attributeBase o m X.env (eval o X.env)=eval o X.env
 few:((backTo cpos (starEach [e,f] X.env)).all (fun x=>!x.1) && (backToKw cpos (keywordEach [] X.env)).all (fun x=>x.1.isSome)
  && decide (([e,f]:List Expr).length + ([]:List Keyword).length + (if ([]:List Keyword).isEmpty then 0 else 1) < 30))=true
 line:(apos.endLine == cpos.line)=true
 trees:backTo cpos (starEach [e,f] X.env)=[(false,eval e X.env),(false,eval f X.env)]
noncomputable def IsD(H:Hp)(a:Addr):Prop:=(∃ kvs,Rd H a (.dK kvs))∨∃ kvs,Rd H a (.dT kvs)
theorem isD_at{X:Cx}{pins:List (Addr×Obj)}{σ:St}{H:Hp}{s:Shared}{a:Addr}(I:Inv X pins σ H s)(d:IsD H a) :
  s.TypeIs (.ref a) "dict"∧(∀ b,Value.ref a = .ref b→∃ ob,s.heap.get? b=some ob∧ob.dict=none)∧(a == sysModules)=false:=by
 rcases d with ⟨kvs,e⟩ | ⟨kvs,e⟩
 ·obtain ⟨_,hd,vs,_,dd⟩:=dk_rd I.hok e
  refine ⟨dd.typeIs,fun b q=>?_,hd⟩
  cases q
  obtain ⟨ob,_,_,h1,h2,_⟩:=dd
  exact ⟨ob,h1,h2.2.1⟩
 ·obtain ⟨_,hd,xs,_,dd⟩:=dt_rd I.hok e
  refine ⟨dd.typeIs,fun b q=>?_,hd⟩
  cases q
  obtain ⟨ob,_,_,h1,h2,_⟩:=dd
  exact ⟨ob,h1,h2.2.1⟩
section
variable {X:Cx} {pins:List (Addr×Obj)} {σ:St} {H:Hp} {s:Shared} {a:Addr} {y d:V} {u r:Value} {o:Option V} {A:Around} {E:Value→Shared→Prop}
theorem d_get2{Q:Value→Shared→Prop}(hu:A.units + 1 < cLine)(I:Inv X pins σ H s)(g:DGet H a y o)(ry:RelV y u)(rd:RelV d r)(h:∀ w' s',Inv X pins σ H s'→RelV (o.getD d) w'→Q w' s') :
  wpAny (model X.prog X.w) A (call (.builtin "dict.get") [.ref a,u,r]) Q E s:=by
 rcases g with ⟨kvs,k,e,ey,l⟩ | ⟨kvs,k,b,e,ey,eb,l⟩
 ·subst ey
  obtain ⟨z,hd,vs,rel,dd⟩:=dk_rd I.hok e
  refine call_meetsIn PySem.F.slot_dict_get dd.typeIs PySem.F.entry_dict_get (PySem.F.args_dict_get_3 _ _ _) (meets_dict_get_default (mixKind X.prog X.w) a (kV_is ry) hd r) ⟨_,dd.mapOf,h _ _ (I.tok _) ?_⟩
  rw [l]
  exact (rel.val k).getD rd
 ·subst ey
  cases (show u=Value.ref b from ry)
  obtain ⟨z,hd,xs,rel,dd⟩:=dt_rd I.hok e
  refine call_meetsIn PySem.F.slot_dict_get dd.typeIs PySem.F.entry_dict_get (PySem.F.args_dict_get_3 _ _ _) (meetsH_dict_get_default (tupleKind (mixKind X.prog X.w)) a b hd r) ⟨tupleKind_room_in1 hu,k,xs,key_of I.hok eb,dd,h _ _ (I.tok _) ?_⟩
  rw [l]
  exact (rel.val k).getD rd
end
noncomputable def tDGet2(td ty tx:TE):TE:=fun σ H Q=>td σ H fun x H1=>∃ a,x = .ref a∧IsD H1 a∧ty σ H1 fun y H2=>tx σ H2 fun z H3=>∃ o,DGet H3 a y o∧Q (o.getD z) H3
section
variable {X:Cx} {o e f:Expr} {apos cpos:Pos} {td ty tx:TE}
theorem pe_dget2(hu:X.A.units + 1 < cLine)(ho:PE X o td)(he:PE X e ty)(hf:PE X f tx)(m:M2 X o "get" apos e f cpos):PE X (.Call (.Attribute o "get" apos) [e,f] [] cpos) (tDGet2 td ty tx):=by
 intro pins s σ H Q I h
 refine wpAny_Call_method m.base m.few m.line PySem.F.plainAttrs_dict PySem.F.slot_dict_get PySem.F.type_dict_get (thn (ho pins s σ H _ I h) fun u s1 zz0=>?_)
 obtain ⟨x,H1,I1,rx,a,ex,d,q1⟩:=zz0
 subst ex
 obtain rfl:u=Value.ref a:=rx
 obtain ⟨t1,t2,_⟩:=isD_at I1 d
 refine ⟨t1,t2,?_⟩
 rw [m.trees]
 refine Calls.callWith_builtin rfl (Calls.evalArgs_plain (Calls.spliced_cons (thn (he pins s1 σ H1 _ I1 q1) fun iv s2 ⟨y,H2,I2,ry,q2⟩ =>
  Calls.spliced_cons (thn (hf pins s2 σ H2 _ I2 q2) fun fv s3 ⟨z,H3,I3,rz,ov,g,q3⟩=>Calls.spliced_nil ?_))))
 exact d_get2 hu I3 g ry rz fun w' s4 I4 rw'=>⟨_,H3,I4,rw',q3⟩
end
section
variable {X:Cx} {pins:List (Addr×Obj)} {σ:St} {H:Hp} {s:Shared} {a:Addr} {kvs:List (Key×V)} {A:Around} {E:Value→Shared→Prop}
end
section
variable {X:Cx} {pins:List (Addr×Obj)} {σ:St} {H:Hp} {s:Shared} {a:Addr} {y:V} {u:Value} {A:Around} {E:Value→Shared→Prop}
end
end L2
namespace HT
open PySem PyProof.Rows
noncomputable def lexLt:List Int→List Int→Bool
 |[],[]=>false
 |[],_ :: _=>true
 |_ :: _,[]=>false
 |x :: xs,y :: ys=>if x=y then lexLt xs ys else decide (x < y)
section
open PySem.SeqAt
open PySem.AutoSeq1 (wpAny_loadPart')
open PySem.MeetsSeq PySem.MeetsSeq2 PySem.MeetsSeq3
end
section
variable {prog:Program} {w:World} {A:Around} {E:Value→Shared→Prop} {s:Shared}
theorem cat_tup{t b:Addr}{vs ws:List Value}{Q:Value→Shared→Prop}(ht:IsTup s.heap t vs.toArray)(hb:IsTup s.heap b ws.toArray)(hv:vs ≠ [])
  (h1:ws=[]→Q (.ref t) s) (h2:ws ≠ []→Q (.ref s.heap.objs.size) { s with heap:=s.heap.push { cls:=.type "tuple",data:=.seq (vs ++ ws).toArray } })
  (hsz:vs.length + ws.length ≤ sizeLine):wpAny (model prog w) A (binaryOp .Add (.ref t) (.ref b)) Q E s:=by
 obtain ⟨⟨cls,dd,data,sl⟩,ho,hc,n,hd⟩:=id ht
 obtain ⟨⟨cls2,dd2,data2,sl2⟩,ho2,hc2,n2,hd2⟩:=id hb
 simp only at hc hd hc2 hd2
 subst hc hd hc2 hd2
 have e:vs.toArray ++ ws.toArray=(vs ++ ws).toArray:=by simp
 by_cases hw:ws=[]
 ·exact concat_meets ⟨_,ho,rfl⟩ ⟨_,ho2,rfl⟩ noFill_tuple_add seq_tuple_add PySem.F.slot_tuple_add PySem.F.entry_tuple_add (PySem.F.args_tuple_add_2 _ _)
   (tuple_addW1 t b vs.toArray ws.toArray n n2 dd dd2 sl sl2 (by simpa using hv) (by simp [hw])) ⟨ho,ho2,h1 hw⟩
 ·refine concat_meets ⟨_,ho,rfl⟩ ⟨_,ho2,rfl⟩ noFill_tuple_add seq_tuple_add PySem.F.slot_tuple_add PySem.F.entry_tuple_add (PySem.F.args_tuple_add_2 _ _)
   (tuple_addW2 t b vs.toArray ws.toArray n n2 dd dd2 sl sl2 (by simpa using hv) (by simpa using hw) (by rw [List.size_toArray,List.size_toArray];exact hsz)) ⟨ho,ho2,?_⟩
  rw [e]
  exact h2 hw
noncomputable def sIx(n d:Nat):Option Int→Nat
 |none=>d
 |some v=>if v < 0 then (v + (n:Int)).toNat else min v.toNat n
theorem sIx_le(n d:Nat)(hd:d ≤ n)(o:Option Int):sIx n d o ≤ n:=by
 cases o with
 |none=>exact hd
 |some v =>
  show (if v < 0 then (v + (n:Int)).toNat else min v.toNat n) ≤ n
  by_cases hv:v < 0
  ·rw [if_pos hv];omega
  ·rw [if_neg hv];exact Nat.min_le_right _ _
theorem clip_eq(v:Int)(n d:Nat):(if v < 0 then max (v + (n:Int)) 0 else min v (n:Int))=((sIx n d (some v):Nat):Int):=by
 show (if v < 0 then max (v + (n:Int)) 0 else min v (n:Int))=(((if v < 0 then (v + (n:Int)).toNat else min v.toNat n):Nat):Int)
 by_cases hv:v < 0
 ·simp only [if_pos hv];omega
 ·simp only [if_neg hv];omega
theorem adjust_gen(lo hi:Option Int)(n:Nat):Builtin.Slice.sliceAdjust lo hi 1 (n:Int)=(((sIx n 0 lo:Nat):Int),((sIx n n hi:Nat):Int)):=by
 have h1:¬ ((1:Int) < 0):=by omega
 unfold Builtin.Slice.sliceAdjust
 simp only [h1,if_false]
 refine Prod.ext ?_ ?_
 ·cases lo with
  |none=>rfl
  |some v=>exact clip_eq v n 0
 ·cases hi with
  |none=>rfl
  |some v=>exact clip_eq v n n
theorem places_gen(i j:Nat):Builtin.Slice.slicePlaces (i:Int) (j:Int) 1=j - i:=by
 unfold Builtin.Slice.slicePlaces
 have h1:(1:Int) > 0:=by omega
 simp only [h1,if_true,Int.ediv_one]
 split <;> omega
theorem slicePart_{v:Value}{o:Option Int}{Q:Option Int→Shared→Prop}(p:IsPart v o)(h:Q o s):wpAny (model prog w) A (Builtin.Slice.slicePartIndex v) Q E s:=by
 cases p with
 |none=>exact slicePart_none h
 |int i t=>exact slicePart_int h
theorem sliceApplied_gen{sl:Addr}{vl vu:Value}{lo hi:Option Int}{n:Nat}{Q:Int×Int×Nat→Shared→Prop}(hs:s.heap.IsSliceOf sl vl vu .none)(pl:IsPart vl lo)(pu:IsPart vu hi)
  (h:Q (((sIx n 0 lo:Nat):Int),1,sIx n n hi - sIx n 0 lo) s):wpAny (model prog w) A (Builtin.Slice.sliceApplied (.ref sl) (pure (n:Int))) Q E s:=by
 obtain ⟨os,hos,hcs,hds⟩:=id hs
 unfold Builtin.Slice.sliceApplied Builtin.Slice.sliceFields
 refine wpAny_bind (wpAny_bind (wpAny_field hos hds (x:=vl) rfl (wpAny_bind (wpAny_field hos hds (x:=vu) rfl (wpAny_bind (wpAny_field hos hds (x:=.none) rfl (wpAny_pure ?_)))))))
 refine wpAny_bind (slicePart_none ?_)
 show wpAny _ _ (if ((1:Int) == 0)=true then _ else _) _ _ s
 rw [if_neg (by decide)]
 refine wpAny_bind (slicePart_ pl (wpAny_bind (slicePart_ pu (wpAny_bind (wpAny_pure ?_)))))
 show wpAny _ _ (match Builtin.Slice.sliceAdjust lo hi 1 (n:Int) with | (lo,hi)=>pure (lo,(1:Int),Builtin.Slice.slicePlaces lo hi 1)) _ _ s
 rw [adjust_gen lo hi n]
 show wpAny _ _ (pure (((sIx n 0 lo:Nat):Int),(1:Int),Builtin.Slice.slicePlaces ((sIx n 0 lo:Nat):Int) ((sIx n n hi:Nat):Int) 1)) _ _ s
 rw [places_gen]
 exact wpAny_pure h
theorem pick_gen(xs:Array Value)(i k:Nat):((List.range k).filterMap fun (m:Nat)=>xs[((i:Int) + (m:Int) * 1).toNat]?).toArray=((xs.toList.drop i).take k).toArray:=by
 have e:(fun (m:Nat)=>xs[((i:Int) + (m:Int) * 1).toNat]?)=fun m=>xs[i + m]?:=by
  funext m
  have:((i:Int) + (m:Int) * 1).toNat=i + m:=by omega
  rw [this]
 rw [e]
 have:=pick_run xs i k
 rw [List.filterMap_map] at this
 have e2:((fun x=>xs[x]?) ∘ fun x=>i + x)=fun m=>xs[i + m]?:=rfl
 rw [e2] at this
 rw [this]
theorem getItem_tuple_cut{t sl:Addr}{items:Array Value}{vl vu:Value}{lo hi:Option Int}{Q:Value→Shared→Prop}(ht:IsTup s.heap t items)(hs:s.heap.IsSliceOf sl vl vu .none)(pl:IsPart vl lo)(pu:IsPart vu hi)
  (hw:¬ (sIx items.size 0 lo=0∧sIx items.size items.size hi=items.size))
  (h:Q (.ref s.heap.objs.size) { s with heap:=s.heap.push { cls:=.type "tuple",data:=.seq ((items.toList.drop (sIx items.size 0 lo)).take (sIx items.size items.size hi - sIx items.size 0 lo)).toArray } })
  (hsz:items.size ≤ sizeLine):wpAny (model prog w) A (getItem (.ref t) (.ref sl)) Q E s:=by
 have htake:sizeOk (.seq ((items.toList.drop (sIx items.size 0 lo)).take (sIx items.size items.size hi - sIx items.size 0 lo)).toArray):=by
  show ((items.toList.drop (sIx items.size 0 lo)).take (sIx items.size items.size hi - sIx items.size 0 lo)).toArray.size ≤ sizeLine
  rw [List.size_toArray,List.length_take,List.length_drop,Array.length_toList]
  omega
 have hj:sIx items.size items.size hi ≤ items.size:=sIx_le _ _ (Nat.le_refl _) hi
 obtain ⟨os,hos,hcs,hds⟩:=id hs
 have hTs:s.TypeIs (.ref sl) "slice":=⟨os,hos,hcs⟩
 unfold getItem
 try with_reducible refine wpAny_holding ?_
 first | refine wpAny_bind (wpAny_pure ?_) | skip
 refine wpAny_bind (wpAny_sequenceKey ht.typeIs (by decide) ?_)
 refine wpAny_bind (wpAny_callSpecial?_slot (name:=Str.ofString "__getitem__") ht.typeIs PyProof.Rows.slot_tuple_getitem
  (wpAny_call_entry PyProof.Rows.slot_tuple_getitem ht.typeIs entry_tuple_getitem ?_ (args_tuple_getitem _ _)))
 show wpAny _ _ (Builtin.Tuple.tupleItemsOf (.ref t) >>= _) _ _ s
 refine wpAny_bind (tupleItemsOf_ ht ?_)
 refine wpAny_bind (wpAny_typeOf hTs ?_)
 rw [if_pos (by decide)]
 refine wpAny_bind (sliceApplied_gen hs pl pu ?_)
 have hno:¬ ((((sIx items.size 0 lo:Nat):Int) == 0 && (1:Int) == 1 && (sIx items.size items.size hi - sIx items.size 0 lo) == items.size)=true):=by
  intro q
  rw [Bool.and_eq_true,Bool.and_eq_true] at q
  have q1:((sIx items.size 0 lo:Nat):Int)=0:=eq_of_beq q.1.1
  have q2:sIx items.size items.size hi - sIx items.size 0 lo=items.size:=eq_of_beq q.2
  exact hw ⟨by omega,by omega⟩
 show wpAny _ _ (if (((sIx items.size 0 lo:Nat):Int) == 0 && (1:Int) == 1 && (sIx items.size items.size hi - sIx items.size 0 lo) == items.size)=true then _ else _) _ _ s
 rw [if_neg hno,pick_gen]
 first
  |exact wpAny_bind (m:=Builtin.Tuple.tupleExact _) (wpAny_newObj_type (wpAny_pure ⟨_,rfl,wpAny_pure h⟩) htake)
  |exact wpAny_bind (m:=Builtin.Tuple.tupleExact _) (wpAny_newObj_type (wpAny_bind (wpAny_pure (wpAny_pure ⟨_,rfl,wpAny_pure h⟩))) htake)
  |exact wpAny_bind (wpAny_bind (m:=Builtin.Tuple.tupleExact _) (wpAny_newObj_type (wpAny_pure (wpAny_pure ⟨_,rfl,wpAny_pure h⟩)) htake))
  |exact wpAny_bind (wpAny_bind (m:=Builtin.Tuple.tupleExact _) (wpAny_newObj_type (wpAny_pure ⟨_,rfl,wpAny_pure h⟩) htake))
end
end HT
namespace L2
open PySem PySem.Spec PyProof.Rows
noncomputable abbrev TO:=St→Hp→(Option Int→Hp→Prop)→Prop
noncomputable def PO(X:Cx)(e:Option Expr)(t:TO):Prop :=
 ∀ (pins:List (Addr×Obj)) (s:Shared) (σ:St) (H:Hp) (Q:Option Int→Hp→Prop),Inv X pins σ H s→t σ H Q →
  wpAny (model X.prog X.w) X.A (evalPart e X.env) (fun u s'=>∃ o H',Inv X pins σ H' s'∧IsPart u o∧Q o H') X.xe s
noncomputable def tNoPart:TO:=fun _ H Q=>Q none H
noncomputable def tPart(t:TE):TO:=fun σ H Q=>t σ H fun x H1=>∃ i,x = .int i∧Q (some i) H1
section
variable {X:Cx} {e:Expr} {te:TE} {lo hi:Option Expr} {tl th:TO} {pos p2:Pos}
theorem po_none:PO X none tNoPart:=by
 intro pins s σ H Q I h
 rw [evalPart_none]
 exact wpAny_pure ⟨none,H,I,.none,h⟩
theorem po_some(h:PE X e te):PO X (some e) (tPart te):=by
 intro pins s σ H Q I hw
 rw [evalPart_some]
 refine thn (h pins s σ H _ I hw) fun u s1 zz0=>?_
 obtain ⟨x,H1,I1,r1,q1⟩:=zz0
 obtain ⟨i,rfl,q⟩:=q1
 obtain ⟨t,rfl⟩:=r1
 exact ⟨some i,H1,I1,.int i t,q⟩
noncomputable def SlR(X:Cx)(r:V→Option Int→Option Int→Hp→VK→Prop):Prop :=
 ∀ (pins:List (Addr×Obj)) (s:Shared) (σ:St) (H:Hp) (x:V) (v vl vu:Value) (lo hi:Option Int) (sl:Addr) (Q:VK),Inv X pins σ H s→RelV x v→s.heap.IsSliceOf sl vl vu .none→IsPart vl lo→IsPart vu hi→r x lo hi H Q →
  ∃ T id,typeLookup (.type T) "__getitem__" = pure (some (.builtin id))∧s.TypeIs v T∧wpAny (model X.prog X.w) X.A (getItem v (.ref sl)) (EP X pins σ Q) X.xe s
theorem SlR.or{r r':V→Option Int→Option Int→Hp→VK→Prop}(h:SlR X r)(h':SlR X r'):SlR X (fun x lo hi H Q=>r x lo hi H Q∨r' x lo hi H Q):=by
 intro pins s σ H x v vl vu lo hi sl Q I rx hs pl pu q
 rcases q with q | q
 ·exact h pins s σ H x v vl vu lo hi sl Q I rx hs pl pu q
 ·exact h' pins s σ H x v vl vu lo hi sl Q I rx hs pl pu q
noncomputable def tSl(r:V→Option Int→Option Int→Hp→VK→Prop)(te:TE)(tl th:TO):TE:=fun σ H Q=>te σ H fun x H1=>tl σ H1 fun l H2=>th σ H2 fun u H3=>r x l u H3 Q
theorem pe_slice{r:V→Option Int→Option Int→Hp→VK→Prop}(hr:SlR X r)(he:PE X e te)(hl:PO X lo tl)(hu:PO X hi th):PE X (.Subscript e (.Slice lo hi none p2) pos) (tSl r te tl th):=by
 intro pins s σ H Q I h
 refine Subscript_ (thn (he pins s σ H _ I h) fun v s1 zz0=>?_)
 obtain ⟨x,H1,I1,r1,q1⟩:=zz0
 refine wpAny_Slice (thn (hl pins s1 σ H1 _ I1 q1) fun vl s2 ⟨l,H2,I2,pl,q2⟩=>thn (hu pins s2 σ H2 _ I2 q2) fun vu s3 zz0=>?_)
 obtain ⟨u,H3,I3,pu,q3⟩:=zz0
 rw [evalPart_none]
 refine wpAny_pure ?_
 have I4:Inv X pins σ H3 { s3 with heap:=s3.heap.push { cls:=.type "slice",data:=.fields #[vl,vu,.none] } }:=I3.kept (t':=s3.toks) fun b ob q=>Heap.get?_push_of_some _ q
 obtain ⟨T,id,hT,ht,hg⟩:=hr pins { s3 with heap:=s3.heap.push { cls:=.type "slice",data:=.fields #[vl,vu,.none] } } σ H3 x v vl vu l u s3.heap.objs.size Q I4 r1 (Heap.IsSliceOf.new ..) pl pu q3
 show wpAny (model X.prog X.w) X.A (subscriptTail e (.Slice lo hi none p2) v (.ref s3.heap.objs.size)) (EP X pins σ Q) X.xe { s3 with heap:=s3.heap.push { cls:=.type "slice",data:=.fields #[vl,vu,.none] } }
 exact tail_any (ops:=[.ref s3.heap.objs.size,v]) ht hT hg (by with_unfolding_all rfl)
noncomputable def cutV(xs:List V)(lo hi:Option Int):List V:=(xs.drop (HT.sIx xs.length 0 lo)).take (HT.sIx xs.length xs.length hi - HT.sIx xs.length 0 lo)
theorem cutV_length(xs:List V)(lo hi:Option Int):(cutV xs lo hi).length ≤ xs.length:=by
 unfold cutV
 rw [List.length_take,List.length_drop]
 omega
noncomputable def rSlT(K:PySem.W.Frag):V→Option Int→Option Int→Hp→VK→Prop:=fun x lo hi H Q=>∃ a xs,x = .ref a∧SqT K H a xs ∧
 ¬ (HT.sIx xs.length 0 lo=0∧HT.sIx xs.length xs.length hi=xs.length)∧∀ p,H p=none→Q (.ref p) (upd H p (.tup (cutV xs lo hi)))
theorem sl_tup:SlR X (rSlT X.K):=by
 intro pins s σ H x v vl vu lo hi sl Q I rx hs pl pu h
 obtain ⟨a,xs,rfl,hx,hw,q⟩:=h
 cases rx
 obtain ⟨its,r,ht,hz⟩:=I.tuple hx
 have hlen:its.toArray.size=xs.length:=by rw [List.size_toArray];exact r.length.symm
 refine ⟨"tuple",_,PyProof.Rows.slot_tuple_getitem.lookup,ht.typeIs,?_⟩
 refine HT.getItem_tuple_cut ht hs pl pu (by rw [hlen];exact hw) ?_ (by rw [hlen];exact hz)
 rw [hlen]
 refine ⟨.ref s.heap.objs.size,_,I.laid (t':=s.toks) (o:=.tup (cutV xs lo hi)) (fun b ob q=>Heap.get?_push_of_some _ q) (Nat.le_refl _) ?_,rfl,q _ (I.hok.fresh (Nat.le_refl _))⟩
 exact ⟨Nat.le_trans (cutV_length xs lo hi) hz,_,(r.drop (HT.sIx xs.length 0 lo)).take (HT.sIx xs.length xs.length hi - HT.sIx xs.length 0 lo),IsTup.new _ _⟩
noncomputable def rCatT(K:PySem.W.Frag):R2:=fun x y H Q=>∃ a b xs ys,x = .ref a∧y = .ref b∧SqT K H a xs∧SqT K H b ys∧xs ≠ []∧xs.length + ys.length ≤ sizeLine ∧
 (ys=[]→Q (.ref a) H)∧(ys ≠ []→∀ p,H p=none→Q (.ref p) (upd H p (.tup (xs ++ ys))))
theorem Vals.nil_iff{xs:List V}{us:List Value}(r:Vals xs us):us=[] ↔ xs=[]:=by
 cases r with
 |nil=>simp
 |cons _ _=>simp
theorem op_catT:OpR X (binaryOp .Add) (rCatT X.K):=by
 intro pins s σ H x y v u Q I rx ry h
 obtain ⟨a,b,xs,ys,rfl,rfl,ha,hb,hx,hz,q1,q2⟩:=h
 cases rx
 cases ry
 obtain ⟨its,r1,p1,_⟩:=I.tuple ha
 obtain ⟨its2,r2,p2,_⟩:=I.tuple hb
 refine HT.cat_tup p1 p2 (fun z=>hx (r1.nil_iff.mp z)) (fun z=>⟨.ref a,H,I,rfl,q1 (r2.nil_iff.mp z)⟩) (fun z=>?_) (by rw [← r1.length,← r2.length];exact hz)
 refine ⟨.ref s.heap.objs.size,_,I.laid (t':=s.toks) (o:=.tup (xs ++ ys)) (fun b ob q=>Heap.get?_push_of_some _ q) (Nat.le_refl _) ?_,rfl,q2 (fun w=>z (r2.nil_iff.mpr w)) _ (I.hok.fresh (Nat.le_refl _))⟩
 exact ⟨by rw [List.length_append];exact hz,_,r1.append r2,IsTup.new _ _⟩
end
end L2
namespace L2
open PySem PySem.Spec PyProof.Rows
noncomputable def ixN(n:Nat)(i:Int):Option Nat:=if 0 ≤ i then (if i < n then some i.toNat else none) else if -(n:Int) ≤ i then some (i + n).toNat else none
noncomputable def atI{α:Type}(xs:List α)(i:Int):Option α:=(ixN xs.length i).bind fun j=>xs[j]?
theorem ixN_seq{n:Nat}{i:Int}{j:Nat}(h:ixN n i=some j):seqIndex? i n=some j∧j < n∧-(n:Int) ≤ i∧i < n:=by
 unfold ixN at h
 by_cases h0:0 ≤ i
 ·rw [if_pos h0] at h
  by_cases h1:i < n
  ·rw [if_pos h1] at h
   have e:i.toNat=j:=Option.some.inj h
   exact ⟨by rw [seqIndex_of h0 h1,e],by omega,by omega,h1⟩
  ·rw [if_neg h1] at h;cases h
 ·rw [if_neg h0] at h
  by_cases h1:-(n:Int) ≤ i
  ·rw [if_pos h1] at h
   have e:(i + n).toNat=j:=Option.some.inj h
   exact ⟨by rw [seqIndex_neg (by omega) h1,e],by omega,h1,by omega⟩
  ·rw [if_neg h1] at h;cases h
theorem atI_get{α:Type}{xs:List α}{i:Int}{v:α}(h:atI xs i=some v):∃ j,seqIndex? i xs.length=some j∧xs[j]?=some v∧j < xs.length∧-(xs.length:Int) ≤ i∧i < xs.length:=by
 unfold atI at h
 cases e:ixN xs.length i with
 |none=>rw [e] at h;cases h
 |some j =>
  rw [e] at h
  obtain ⟨h1,h2,h3,h4⟩:=ixN_seq e
  exact ⟨j,h1,h,h2,h3,h4⟩
noncomputable def PlainIx(b:Expr):Prop:=∀ o i,subscripted b false o i=operate [o,i] (getItem o i)
noncomputable def IxR(X:Cx)(r:R2):Prop :=
 ∀ (value slice:Expr) (pins:List (Addr×Obj)) (s:Shared) (σ:St) (H:Hp) (x y:V) (v u:Value) (Q:VK),Inv X pins σ H s→RelV x v→RelV y u→r x y H Q →
  subscripted slice false v u=operate [v,u] (getItem v u)→wpAny (model X.prog X.w) X.A (subscriptTail value slice v u) (EP X pins σ Q) X.xe s
noncomputable def MtR(X:Cx)(id:String)(r:V→List V→Hp→VK→Prop):Prop :=
 ∀ (pins:List (Addr×Obj)) (s:Shared) (σ:St) (H:Hp) (x:V) (xs:List V) (v:Value) (us:List Value) (Q:VK),Inv X pins σ H s→RelV x v→Vals xs us→r x xs H Q →
  wpAny (model X.prog X.w) X.A (call (.builtin id) (v :: us)) (EP X pins σ Q) X.xe s
section
variable {X:Cx} {a b:Expr} {ta tb:TE} {pos:Pos}
theorem IxR.or{r r':R2}(h:IxR X r)(h':IxR X r'):IxR X (fun x y H Q=>r x y H Q∨r' x y H Q):=by
 intro value slice pins s σ H x y v u Q I rx ry q hs
 rcases q with q | q
 ·exact h value slice pins s σ H x y v u Q I rx ry q hs
 ·exact h' value slice pins s σ H x y v u Q I rx ry q hs
theorem pe_ix{r:R2}(hr:IxR X r)(ha:PE X a ta)(hb:PE X b tb)(hs:PlainIx b):PE X (.Subscript a b pos) (tOp r ta tb):=by
 intro pins s σ H Q I h
 exact Subscript_ (binT ha hb I h fun v u s2 x y H2 I2 rx ry q=>hr a b pins s2 σ H2 x y v u Q I2 rx ry q (hs _ _))
noncomputable def rIxL(K:PySem.W.Frag):R2:=fun x y H Q=>∃ p xs i v,x = .ref p∧y = .int i∧SqL K H p xs∧atI xs i=some v∧Q v H
noncomputable def rIxT(K:PySem.W.Frag):R2:=fun x y H Q=>∃ p xs i v,x = .ref p∧y = .int i∧SqT K H p xs∧atI xs i=some v∧Q v H
noncomputable def rIxS:R2:=fun x y H Q=>∃ z i c,x = .str z∧y = .int i∧z.length ≤ sizeLine∧atI z.cps.toList i=some c∧Q (.str ⟨#[c]⟩) H
theorem ix_list:IxR X (rIxL X.K):=by
 intro value slice pins s σ H x y v u Q I rx ry h hs
 obtain ⟨p,xs,i,z,rfl,rfl,hq,he,q⟩:=h
 cases rx
 obtain ⟨t,rfl⟩:=ry
 obtain ⟨its,r,pl,hz⟩:=I.list hq
 obtain ⟨j,h1,h2,h3,h4,h5⟩:=atI_get he
 obtain ⟨w,ew,rw'⟩:=r.get h2
 have hl:=r.length
 have hn:=line63
 have fin:EP X pins σ Q w s:=⟨z,H,I,rw',q⟩
 by_cases h0:0 ≤ i
 ·have hj:i.toNat=j:=by
   rw [seqIndex_of h0 h5] at h1
   exact Option.some.inj h1
  exact item_listR pl.isList h0 (by omega) (by rw [hj];simpa using ew) fin hs
 ·have hj:(i + (its.toArray.size:Int)).toNat=j:=by
   rw [seqIndex_neg (by omega) h4] at h1
   rw [List.size_toArray,← hl]
   exact Option.some.inj h1
  exact subscriptTail_builtinR (x:=w) pl.isList.typeIs slot_list_getitem.lookup
   (wpAny_getItem_list_neg (Q:=fun r s'=>r=w∧EP X pins σ Q r s') pl.isList (by omega) (by rw [List.size_toArray] <;> omega) (by omega) (by rw [hj];simpa using ew) ⟨rfl,fin⟩) hs
theorem ix_tup:IxR X (rIxT X.K):=by
 intro value slice pins s σ H x y v u Q I rx ry h hs
 obtain ⟨p,xs,i,z,rfl,rfl,hq,he,q⟩:=h
 cases rx
 obtain ⟨t,rfl⟩:=ry
 obtain ⟨its,r,pl,hz⟩:=I.tuple hq
 obtain ⟨j,h1,h2,h3,h4,h5⟩:=atI_get he
 obtain ⟨w,ew,rw'⟩:=r.get h2
 have hl:=r.length
 have hn:=line63
 have fin:EP X pins σ Q w s:=⟨z,H,I,rw',q⟩
 exact subscriptTail_builtinR (x:=w) pl.typeIs slot_tuple_getitem.lookup
  (getItem_tuple (j:=j) (Q:=fun r s'=>r=w∧EP X pins σ Q r s') pl (by omega) (by omega) (by rw [List.size_toArray,← hl];exact h1) (by simpa using ew) ⟨rfl,fin⟩) hs
theorem ix_str:IxR X rIxS:=by
 intro value slice pins s σ H x y v u Q I rx ry h hs
 obtain ⟨z,i,c,rfl,rfl,hz,he,q⟩:=h
 obtain ⟨t,rfl⟩:=rx
 obtain ⟨t',rfl⟩:=ry
 obtain ⟨j,h1,h2,h3,h4,h5⟩:=atI_get he
 have hl:z.cps.toList.length=z.length:=by simp [Str.length]
 rw [hl] at h1 h4 h5
 have hn:=line63
 exact tail_any (typeIs_str s z t) slot_str_getitem.lookup (getItem_str (c:=c) (by
  have e1:decide (i < -(2 ^ 63:Int))=false:=decide_eq_false (by omega)
  have e2:decide (i ≥ 2 ^ 63)=false:=decide_eq_false (by omega)
  rw [e1,e2,Bool.or_false]) (by rw [h1];simpa using h2) ⟨.str ⟨#[c]⟩,H,I.tok _,⟨_,rfl⟩,q⟩) hs
noncomputable def rIx(K:PySem.W.Frag):R2:=fun x y H Q=>rIxL K x y H Q∨rIxT K x y H Q∨rIxS x y H Q
theorem ix_seq:IxR X (rIx X.K):=ix_list.or (ix_tup.or ix_str)
theorem mapSeq_set(its:List Value)(n j:Nat)(u:Value):Obj.mapSeq (·.setIfInBounds j u) { cls:=.type "list",data:=.seq its.toArray n }={ cls:=.type "list",data:=.seq (its.set j u).toArray n }:=by
 simp [Obj.mapSeq]
theorem Inv.lst{pins:List (Addr×Obj)}{σ:St}{H:Hp}{s:Shared}{p:Addr}{xs:List V}(I:Inv X pins σ H s)(h:H p=some (.lst xs)) :
  ∃ (its:List Value) (n:Nat),Vals xs its∧s.heap.get? p=some { cls:=.type "list",data:=.seq its.toArray n }∧xs.length ≤ sizeLine:=by
 obtain ⟨z,its,n,r,e⟩:=I.hok p _ h
 exact ⟨its,n,r,e,z⟩
theorem Inv.lstUpd{pins:List (Addr×Obj)}{σ:St}{H:Hp}{s:Shared}{p:Addr}{xs ys:List V}{its its':List Value}{n n':Nat}{f:Obj→Obj}(I:Inv X pins σ H s)(h:H p=some (.lst xs))
  (ho:s.heap.get? p=some { cls:=.type "list",data:=.seq its.toArray n }) (hf:f { cls:=.type "list",data:=.seq its.toArray n }={ cls:=.type "list",data:=.seq its'.toArray n' }) (r:Vals ys its') (hz:ys.length ≤ sizeLine) (t:Nat) :
  Inv X pins σ (upd H p (.lst ys)) { s with heap:=s.heap.update p f,toks:=t }:=by
 have e:(s.heap.update p f).get? p=some { cls:=.type "list",data:=.seq its'.toArray n' }:=by
  rw [Heap.get?_update_self f ho (by rw [hf] <;> rfl),hf]
 refine I.write (x:=p) (e:=p) (by rw [h];trivial) (.inl rfl) (fun b u hb q=>(Heap.get?_update_other _ _ (Ne.symm hb)).trans q) ⟨_,e⟩ ?_
 exact ⟨hz,its',n',r,e⟩
noncomputable def rSetL:V→V→V→Hp→(Hp→Prop)→Prop:=fun o i v H Q=>∃ p xs k j,o = .ref p∧i = .int k∧H p=some (.lst xs)∧ixN xs.length k=some j∧Q (upd H p (.lst (xs.set j v)))
theorem set_list:PSet X rSetL:=by
 intro pins s σ H o i v ov iv u Q I ro ri rv h
 obtain ⟨p,xs,k,j,rfl,rfl,hp,hj,q⟩:=h
 cases ro
 obtain ⟨t,rfl⟩:=ri
 obtain ⟨its,n,r,ho,hz⟩:=I.lst hp
 obtain ⟨h1,h2,h3,h4⟩:=ixN_seq hj
 have hl:=r.length
 have hn:=line63
 have I':Inv X pins σ (upd H p (.lst (xs.set j v))) { s with heap:=s.heap.update p (Obj.mapSeq (·.setIfInBounds j u)) } :=
  I.lstUpd hp ho (mapSeq_set its n j u) (r.set rv j) (by rw [List.length_set];exact hz) s.toks
 by_cases h0:0 ≤ k
 ·have hk:k.toNat=j:=by
   rw [seqIndex_of h0 h4] at h1
   exact Option.some.inj h1
  exact PySem.W.ki_setAt ho h0 (by omega) (by rw [List.size_toArray,← hl];exact h4) (by rw [hk];exact ⟨_,I',q⟩)
 ·have hk:(k + (its.toArray.size:Int)).toNat=j:=by
   rw [seqIndex_neg (by omega) h3] at h1
   rw [List.size_toArray,← hl]
   exact Option.some.inj h1
  exact PySem.W.ki_setBack ho (by omega) (by rw [List.size_toArray,← hl];exact h3) (by omega) (by rw [hk];exact ⟨_,I',q⟩)
theorem slice_bounds(lo hi:Option Int)(n:Nat):(sliceBounds lo hi none n).1=((HT.sIx n 0 lo:Nat):Int)∧(sliceBounds lo hi none n).2.1=((HT.sIx n n hi:Nat):Int)∧(sliceBounds lo hi none n).2.2=1:=by
 refine ⟨?_,?_,rfl⟩
 ·cases lo with
  |none=>simp [sliceBounds,HT.sIx]
  |some i =>
   simp only [sliceBounds,HT.sIx,Option.getD_none,show (1:Int) > 0 by decide,if_true]
   by_cases h:i < 0
   ·simp only [h,if_true] <;> omega
   ·simp only [h,if_false] <;> omega
 ·cases hi with
  |none=>simp [sliceBounds,HT.sIx]
  |some i =>
   simp only [sliceBounds,HT.sIx,Option.getD_none,show (1:Int) > 0 by decide,if_true]
   by_cases h:i < 0
   ·simp only [h,if_true] <;> omega
   ·simp only [h,if_false] <;> omega
theorem slicePick_cut(its:List Value)(lo hi:Option Int):slicePick its.toArray lo hi none=((its.drop (HT.sIx its.length 0 lo)).take (HT.sIx its.length its.length hi - HT.sIx its.length 0 lo)).toArray:=by
 obtain ⟨h1,h2,h3⟩:=slice_bounds lo hi its.toArray.size
 unfold slicePick
 rw [h1,h2,h3]
 simp only [sliceRange_one,pick_run,List.size_toArray] <;> rfl
noncomputable def rSlL(K:PySem.W.Frag):V→Option Int→Option Int→Hp→VK→Prop:=fun x lo hi H Q=>∃ a xs,x = .ref a∧SqL K H a xs∧∀ p,H p=none→Q (.ref p) (upd H p (.lst (cutV xs lo hi)))
theorem sl_list:SlR X (rSlL X.K):=by
 intro pins s σ H x v vl vu lo hi sl Q I rx hs pl pu h
 obtain ⟨a,xs,rfl,hx,q⟩:=h
 cases rx
 obtain ⟨its,r,ht,hz⟩:=I.list hx
 have hlen:=r.length
 refine ⟨"list",_,slot_list_getitem.lookup,ht.isList.typeIs,?_⟩
 refine wpAny_getItem_list_slice ht.isList hs pl pu .none (by simp) ?_ (by rw [List.size_toArray] <;> omega)
 rw [slicePick_cut,← hlen]
 refine ⟨.ref s.heap.objs.size,_,I.laid (t':=s.toks) (o:=.lst (cutV xs lo hi)) (fun b ob q=>Heap.get?_push_of_some _ q) (Nat.le_refl _) ?_,rfl,q _ (I.hok.fresh (Nat.le_refl _))⟩
 exact ⟨Nat.le_trans (cutV_length xs lo hi) hz,_,0,(r.drop (HT.sIx xs.length 0 lo)).take (HT.sIx xs.length xs.length hi - HT.sIx xs.length 0 lo),Heap.get?_push_size _ rfl⟩
noncomputable def flatV:V→Bool
 |.non=>true
 |.bl _=>true
 |.int _=>true
 |.str _=>true
 |_=>false
noncomputable def eqV:V→V→Bool
 |.non,.non=>true
 |.bl a,.bl b=>a == b
 |.bl a,.int b=>(if a then 1 else 0) == b
 |.int a,.bl b=>a == (if b then 1 else 0)
 |.int a,.int b=>a == b
 |.str a,.str b=>a == b
 |_,_=>false
theorem eqAt_V{A:Around}{s:Shared}{y x:V}{u v:Value}(ry:RelV y u)(rx:RelV x v)(fy:flatV y=true)(fx:flatV x=true):SeqAt.EqAt A s u v (eqV y x):=by
 cases y with
 |non =>
  cases ry
  cases x with
  |non=>cases rx;exact SeqAt.EqAt.same _
  |bl b=>cases rx;exact SeqAt.EqAt.none_bool b
  |int b=>obtain ⟨t,rfl⟩:=rx;exact SeqAt.EqAt.none_int b t
  |str b=>obtain ⟨t,rfl⟩:=rx;exact SeqAt.EqAt.none_str b t
  |_=>exact absurd (show false=true from fx) Bool.false_ne_true
 |bl a =>
  cases ry
  cases x with
  |non=>cases rx;exact SeqAt.EqAt.bool_none a
  |bl b=>cases rx;exact SeqAt.EqAt.bool_bool a b
  |int b=>obtain ⟨t,rfl⟩:=rx;exact SeqAt.EqAt.bool_int a b t
  |str b=>obtain ⟨t,rfl⟩:=rx;exact SeqAt.EqAt.bool_str a b t
  |_=>exact absurd (show false=true from fx) Bool.false_ne_true
 |int a =>
  obtain ⟨t',rfl⟩:=ry
  cases x with
  |non=>cases rx;exact SeqAt.EqAt.int_none a t'
  |bl b=>cases rx;exact SeqAt.EqAt.int_bool a t' b
  |int b=>obtain ⟨t,rfl⟩:=rx;exact SeqAt.EqAt.int_int a t' b t
  |str b=>obtain ⟨t,rfl⟩:=rx;exact SeqAt.EqAt.int_str a t' b t
  |_=>exact absurd (show false=true from fx) Bool.false_ne_true
 |str a =>
  obtain ⟨t',rfl⟩:=ry
  cases x with
  |non=>cases rx;exact SeqAt.EqAt.str_none a t'
  |bl b=>cases rx;exact SeqAt.EqAt.str_bool a t' b
  |int b=>obtain ⟨t,rfl⟩:=rx;exact SeqAt.EqAt.str_int a t' b t
  |str b=>obtain ⟨t,rfl⟩:=rx;exact SeqAt.EqAt.str_str a t' b t
  |_=>exact absurd (show false=true from fx) Bool.false_ne_true
 |_=>exact absurd (show false=true from fy) Bool.false_ne_true
noncomputable def eqU(x:V)(u:Value):Bool:=match u with
 |.none=>eqV .non x
 |.bool b=>eqV (.bl b) x
 |.int i _=>eqV (.int i) x
 |.str z _=>eqV (.str z) x
 |_=>false
theorem eqU_of{x y:V}{u:Value}(r:RelV y u)(f:flatV y=true):eqU x u=eqV y x:=by
 cases y with
 |non=>cases r;rfl
 |bl b=>cases r;rfl
 |int i=>obtain ⟨t,rfl⟩:=r;rfl
 |str z=>obtain ⟨t,rfl⟩:=r;rfl
 |_=>exact absurd (show false=true from f) Bool.false_ne_true
theorem any_eqU{x:V}:∀ {xs:List V} {us:List Value},Vals xs us→xs.all flatV=true→us.any (eqU x)=xs.any fun y=>eqV y x
 |_,_,.nil,_=>rfl
 |y :: xs,u :: us,.cons r t,f=>by
  rw [List.all_cons,Bool.and_eq_true] at f
  rw [List.any_cons,List.any_cons,eqU_of r f.1,any_eqU t f.2]
theorem mem_eqAt{A:Around}{s:Shared}{x:V}{v:Value}(rx:RelV x v)(fx:flatV x=true):∀ {xs:List V} {us:List Value},Vals xs us→xs.all flatV=true→∀ u ∈ us,SeqAt.EqAt A s u v (eqU x u)
 |_,_,.nil,_=>fun u hu=>by cases hu
 |y :: xs,u :: us,.cons r t,f=>fun u' hu=>by
  rw [List.all_cons,Bool.and_eq_true] at f
  rcases List.mem_cons.mp hu with rfl | hu
  ·rw [eqU_of r f.1];exact eqAt_V r rx f.1 fx
  ·exact mem_eqAt rx fx t f.2 u' hu
noncomputable def inV(x:V)(xs:List V):Bool:=xs.any fun y=>eqV y x
noncomputable def rIn(K:PySem.W.Frag)(neg:Bool):R2:=fun x y H Q=>∃ p xs,y = .ref p∧(SqL K H p xs∨SqT K H p xs)∧flatV x=true∧xs.all flatV=true∧Q (.bl (if neg then !inV x xs else inV x xs)) H
theorem op_in_seq:OpR X (compareOp .In) (rIn X.K false):=by
 intro pins s σ H x y v u Q I rx ry h
 obtain ⟨p,xs,rfl,hq,fx,fs,q⟩:=h
 cases ry
 rcases hq with hq | hq
 ·obtain ⟨its,r,pl,hz⟩:=I.list hq
  refine SeqAt.in_listAt (eqU x) pl.isList (fun w hw=>mem_eqAt rx fx r fs w (by simpa using hw)) ⟨.bl _,H,I,rfl,?_⟩
  rw [show its.toArray.any (eqU x)=its.any (eqU x) by simp,any_eqU r fs]
  exact q
 ·obtain ⟨its,r,pl,hz⟩:=I.tuple hq
  refine SeqAt.in_tupleAt (eqU x) pl (fun w hw=>mem_eqAt rx fx r fs w (by simpa using hw)) ⟨.bl _,H,I,rfl,?_⟩
  rw [show its.toArray.any (eqU x)=its.any (eqU x) by simp,any_eqU r fs]
  exact q
theorem op_notIn_seq:OpR X (compareOp .NotIn) (rIn X.K true):=by
 intro pins s σ H x y v u Q I rx ry h
 obtain ⟨p,xs,rfl,hq,fx,fs,q⟩:=h
 cases ry
 rcases hq with hq | hq
 ·obtain ⟨its,r,pl,hz⟩:=I.list hq
  refine SeqAt.notIn_listAt (eqU x) pl.isList (fun w hw=>mem_eqAt rx fx r fs w (by simpa using hw)) ⟨.bl _,H,I,rfl,?_⟩
  rw [show its.toArray.any (eqU x)=its.any (eqU x) by simp,any_eqU r fs]
  exact q
 ·obtain ⟨its,r,pl,hz⟩:=I.tuple hq
  refine SeqAt.notIn_tupleAt (eqU x) pl (fun w hw=>mem_eqAt rx fx r fs w (by simpa using hw)) ⟨.bl _,H,I,rfl,?_⟩
  rw [show its.toArray.any (eqU x)=its.any (eqU x) by simp,any_eqU r fs]
  exact q
theorem call_list_of:CallR X (.type "list") (fun xs H Q=>∃ p ys,xs=[.ref p]∧(SqL X.K H p ys∨SqT X.K H p ys)∧∀ l,H l=none→Q (.ref l) (upd H l (.lst ys))):=by
 intro pins s σ H xs us Q I r h
 obtain ⟨p,ys,rfl,hq,q⟩:=h
 obtain ⟨u,rfl,rx⟩:=vals1 r
 cases rx
 have fin:∀ (its:List Value),Vals ys its→ys.length ≤ sizeLine→∀ (h':Heap) (c':Nat),(∀ b o',s.heap.get? b=some o'→h'.get? b=some o') →
   h'.get? s.heap.objs.size=some { cls:=.type "list",dict:=none,data:=.seq its.toArray c',slots:=#[] }→EP X pins σ Q (.ref s.heap.objs.size) { s with heap:=h' }:=fun its r' hz h' c' kp e =>
  ⟨.ref s.heap.objs.size,_,I.laid (t':=s.toks) kp (Nat.le_refl _) (show ObjOk X.prog X.w _ h' _ (.lst ys) from ⟨hz,its,c',r',e⟩),rfl,q _ (I.hok.fresh (Nat.le_refl _))⟩
 rcases hq with hq | hq
 ·obtain ⟨its,r',pl,hz⟩:=I.list hq
  have hlen:=r'.length
  obtain ⟨o,ho,hc,n,hd⟩:=pl.isList
  exact call_list_seq p (.inl rfl) ho hc hd (fun h' c' kp e=>fin its r' hz h' c' kp e) (by simp only [List.size_toArray] <;> omega)
 ·obtain ⟨its,r',pl,hz⟩:=I.tuple hq
  have hlen:=r'.length
  obtain ⟨o,ho,hc,n,hd⟩:=pl
  exact call_list_seq p (.inr rfl) ho hc hd (fun h' c' kp e=>fin its r' hz h' c' kp e) (by simp only [List.size_toArray] <;> omega)
theorem call_tuple_of:CallR X (.type "tuple") (fun xs H Q=>∃ p ys,xs=[.ref p]∧((SqL X.K H p ys∧∀ l,H l=none→Q (.ref l) (upd H l (.tup ys)))∨(SqT X.K H p ys∧Q (.ref p) H))):=by
 intro pins s σ H xs us Q I r h
 obtain ⟨p,ys,rfl,h⟩:=h
 obtain ⟨u,rfl,rx⟩:=vals1 r
 cases rx
 rcases h with ⟨hq,q⟩ | ⟨hq,q⟩
 ·obtain ⟨its,r',pl,hz⟩:=I.list hq
  have hlen:=r'.length
  refine call_tuple_list pl.isList (fun h' kp=>?_) (by simp only [List.size_toArray] <;> omega)
  have I1:Inv X pins σ H { s with heap:=h' }:=I.kept (t':=s.toks) kp
  have I2:Inv X pins σ (upd H h'.objs.size (.tup ys)) { s with heap:=h'.push { cls:=.type "tuple",data:=.seq its.toArray } } :=
   I1.laid (t':=s.toks) (fun b o e=>Heap.get?_push_of_some _ e) (Nat.le_refl _) (show ObjOk X.prog X.w _ _ _ (.tup ys) from ⟨hz,its,r',IsTup.new _ _⟩)
  exact ⟨.ref h'.objs.size,_,I2,rfl,q _ (I1.hok.fresh (Nat.le_refl _))⟩
 ·obtain ⟨its,r',pl,hz⟩:=I.tuple hq
  exact call_tuple_same pl ⟨.ref p,H,I,rfl,q⟩
noncomputable def tyV(K:PySem.W.Frag)(T:String)(x:V)(H:Hp):Prop:=match x with
 |.str _=>T = "str"
 |.int _=>T = "int"
 |.ref p=>(T = "list"∧∃ xs,SqL K H p xs)∨(T = "tuple"∧∃ o,K.lookup p=some o∧o.cls = .type "tuple"∧o.dict=none) ∨
   (T = "dict"∧((∃ kvs,H p=some (.dK kvs))∨∃ kvs,H p=some (.dT kvs)))∨(T = "set"∧∃ S n,H p=some (.set S n))
 |_=>False
theorem tyV_is{pins:List (Addr×Obj)}{σ:St}{H:Hp}{s:Shared}{T:String}{x:V}{v:Value}(I:Inv X pins σ H s)(r:RelV x v)(ty:tyV X.K T x H) :
  s.TypeIs v T∧∀ a,v = .ref a→∃ ob,s.heap.get? a=some ob∧ob.dict=none:=by
 cases x with
 |str z =>
  obtain ⟨t,rfl⟩:=r
  cases (show T = "str" from ty)
  exact ⟨typeIs_str s z t,fun _ e=>nomatch e⟩
 |int i =>
  obtain ⟨t,rfl⟩:=r
  cases (show T = "int" from ty)
  exact ⟨typeIs_int s i t,fun _ e=>nomatch e⟩
 |ref p =>
  cases r
  rcases ty with ⟨rfl,xs,hq⟩ | ⟨rfl,o,hk,hc,hd⟩ | ⟨rfl,hk⟩ | ⟨rfl,S,n,hk⟩
  ·obtain ⟨its,_,pl,_⟩:=I.list hq
   refine ⟨pl.isList.typeIs,fun a e=>?_⟩
   cases e
   obtain ⟨o,n,e,c,hd,_⟩:=pl
   exact ⟨o,e,hd⟩
  ·refine ⟨⟨o,I.kIn p o hk,hc⟩,fun a e=>?_⟩
   cases e
   exact ⟨o,I.kIn _ o hk,hd⟩
  ·have z:∃ o,s.heap.get? p=some o∧o.ExactDict:=by
    rcases hk with ⟨kvs,hk⟩ | ⟨kvs,hk⟩
    ·obtain ⟨_,_,_,_,o,_,_,e,ex,_⟩:=I.hok p _ hk
     exact ⟨o,e,ex⟩
    ·obtain ⟨_,_,_,_,o,_,_,e,ex,_⟩:=I.hok p _ hk
     exact ⟨o,e,ex⟩
   obtain ⟨o,e,ex⟩:=z
   refine ⟨⟨o,e,ex.1⟩,fun a e2=>?_⟩
   cases e2
   exact ⟨o,e,ex.2.1⟩
  ·obtain ⟨o,_,_,_,e,ex,_⟩:=I.hok p _ hk
   refine ⟨⟨o,e,ex.1⟩,fun a e2=>?_⟩
   cases e2
   exact ⟨o,e,ex.2.1⟩
 |_=>exact False.elim ty
noncomputable def tBM0(K:PySem.W.Frag)(T:String)(r:V→List V→Hp→VK→Prop)(to:TE):TE:=fun σ H Q=>to σ H fun x H1=>tyV K T x H1∧r x [] H1 Q
noncomputable def tBM(K:PySem.W.Frag)(T:String)(r:V→List V→Hp→VK→Prop)(to:TE)(t:TA):TE:=fun σ H Q=>to σ H fun x H1=>tyV K T x H1∧t σ H1 fun xs H2=>r x xs H2 Q
variable {o e:Expr} {es:List Expr} {to:TE} {t:TA} {name:Str} {apos cpos:Pos} {T id:String} {r:V→List V→Hp→VK→Prop}
theorem pe_bm0(pa:PlainAttrs T)(slot:Slot T name id)(hty:typeOf (.builtin id)=pure (.type "method_descriptor"))(hm:MtR X id r)(ho:PE X o to)
  (hbase:attributeBase o name X.env (eval o X.env)=eval o X.env:=by rfl) (hline:(apos.endLine == cpos.line)=true:=by rfl):PE X (.Call (.Attribute o name apos) [] [] cpos) (tBM0 X.K T r to):=by
 intro pins s σ H Q I h
 refine wpAny_Call_method0_late hbase hline (thn (ho pins s σ H _ I h) fun v s1 zz0=>?_)
 obtain ⟨x,H1,I1,r1,ty,q1⟩:=zz0
 obtain ⟨h1,h2⟩:=tyV_is I1 r1 ty
 exact ⟨T,id,pa,slot,hty,h1,h2,Calls.callWith_builtin rfl (PySem.evalArgs_none (hm pins s1 σ H1 x [] v [] Q I1 r1 .nil q1))⟩
theorem pe_bm(pa:PlainAttrs T)(slot:Slot T name id)(hty:typeOf (.builtin id)=pure (.type "method_descriptor"))(hm:MtR X id r)(ho:PE X o to)(ha:PA X (e :: es) t)
  (hbase:attributeBase o name X.env (eval o X.env)=eval o X.env:=by rfl)
  (hfew:((backTo cpos (starEach (e :: es) X.env)).all (fun x=>!x.1) && (backToKw cpos (keywordEach [] X.env)).all (fun x=>x.1.isSome)
   && decide ((e :: es).length + ([]:List Keyword).length + (if ([]:List Keyword).isEmpty then 0 else 1) < 30))=true:=by rfl)
  (hline:(apos.endLine == cpos.line)=true:=by rfl) (hs:starEach (e :: es) X.env=(false,eval e X.env) :: starEach es X.env:=by rfl) (hplain:(backTo cpos (starEach es X.env)).any (·.1)=false:=by rfl) :
  PE X (.Call (.Attribute o name apos) (e :: es) [] cpos) (tBM X.K T r to t):=by
 intro pins s σ H Q I h
 refine wpAny_Call_method_late hbase hfew hline rfl (thn (ho pins s σ H _ I h) fun v s1 zz0=>?_)
 obtain ⟨x,H1,I1,r1,ty,q1⟩:=zz0
 obtain ⟨h1,h2⟩:=tyV_is I1 r1 ty
 refine ⟨T,id,pa,slot,hty,h1,h2,?_⟩
 have hA:=ha cpos pins s1 σ H1 _ I1 q1
 rw [hs] at hA ⊢
 refine Calls.callWith_builtin (by show (false || (backTo cpos (starEach es X.env)).any (·.1))=false;rw [hplain] <;> rfl) (Calls.evalArgs_plain ?_)
 exact thn hA fun us s2 ⟨vs,H2,I2,r2,q2⟩=>hm pins s2 σ H2 x vs v us Q I2 r1 r2 q2
end
end L2
namespace L2
open PySem PySem.Spec PyProof.Rows
noncomputable def MtM(X:Cx)(id:String)(r:V→List V→Hp→VK→Prop):Prop :=
 ∀ (pins:List (Addr×Obj)) (s:Shared) (σ:St) (H:Hp) (x:V) (xs:List V) (v:Value) (us:List Value) (Q:VK),Inv X pins σ H s→RelV x v→Vals xs us→r x xs H Q →
  wpAny (model X.prog X.w) X.A (call (.builtin id) (v :: us)) (EP X pins σ Q) X.xe s
theorem Vals.one{x:V}{us:List Value}(h:Vals [x] us):∃ u,us=[u]∧RelV x u:=by
 cases h with
 |cons r t=>cases t;exact ⟨_,rfl,r⟩
theorem Vals.zero:∀ {us:List Value},Vals [] us→us=[]
 |_,.nil=>rfl
theorem Vals.dropLast{xs:List V}{us:List Value}(h:Vals xs us):Vals xs.dropLast us.dropLast:=by
 induction h with
 |nil=>exact .nil
 |cons r t ih =>
  cases t with
  |nil=>exact .nil
  |cons q t'=>exact .cons r ih
theorem Vals.eraseIdx:∀ {xs:List V} {us:List Value} (i:Nat),Vals xs us→Vals (xs.eraseIdx i) (us.eraseIdx i)
 |_,_,_,.nil=>.nil
 |_,_,0,.cons _ t=>t
 |_,_,i + 1,.cons r t=>.cons r (Vals.eraseIdx i t)
theorem Vals.rep{xs:List V}{us:List Value}(h:Vals xs us):∀ k:Nat,Vals (List.replicate k xs).flatten (List.replicate k us).flatten
 |0=>.nil
 |k + 1=>by
  rw [List.replicate_succ,List.replicate_succ,List.flatten_cons,List.flatten_cons]
  exact Vals.append h (Vals.rep h k)
theorem erase_last{α:Type}(l:List α):l.eraseIdx (l.length - 1)=l.dropLast:=by
 induction l with
 |nil=>rfl
 |cons a r ih =>
  cases r with
  |nil=>rfl
  |cons b r =>
   have e:(a :: b :: r).length - 1=((b :: r).length - 1) + 1:=by
    have h1:(a :: b :: r).length=r.length + 2:=rfl
    have h2:(b :: r).length=r.length + 1:=rfl
    omega
   rw [e,List.eraseIdx_cons_succ,ih]
   all_goals rfl
theorem len_erase{α:Type}:∀ (l:List α) (i:Nat),(l.eraseIdx i).length ≤ l.length
 |[],_=>Nat.le_refl _
 |_ :: _,0=>Nat.le_succ _
 |_ :: r,i + 1=>Nat.succ_le_succ (len_erase r i)
theorem foldl_rep(its:List Value):∀ (k:Nat) (acc:List Value),
  List.foldl (fun x1 x2=>x1 ++ x2) acc.toArray (List.replicate k its.toArray)=(acc ++ (List.replicate k its).flatten).toArray
 |0,acc=>by simp
 |k + 1,acc=>by
  have e:acc.toArray ++ its.toArray=(acc ++ its).toArray:=by simp
  have e2:(acc ++ its) ++ (List.replicate k its).flatten=acc ++ (List.replicate (k + 1) its).flatten:=by
   rw [List.replicate_succ,List.flatten_cons,List.append_assoc]
  rw [← e2,← foldl_rep its k (acc ++ its),← e,List.replicate_succ,List.foldl_cons]
section
variable {X:Cx} {pins:List (Addr×Obj)} {σ:St} {H:Hp} {s:Shared} {l b:Addr} {xs ys zs:List V}
theorem Inv.lset{its its':List Value}{n:Nat}{f:Array Value→Array Value}{t':Nat}(I:Inv X pins σ H s)(hH:H l=some (.lst xs))
  (e:s.heap.get? l=some { cls:=.type "list",data:=.seq its.toArray n }) (hf:f its.toArray=its'.toArray) (hv:Vals ys its') (hz:ys.length ≤ sizeLine) :
  Inv X pins σ (upd H l (.lst ys)) { s with heap:=s.heap.update l (Obj.mapSeq f),toks:=t' }:=by
 have q:=PySem.IsL.update e f
 rw [hf] at q
 refine I.write (x:=l) (e:=l) (by rw [hH];exact trivial) (.inl rfl) (fun b' u hb hu=>(Heap.get?_update_other s.heap (Obj.mapSeq f) (Ne.symm hb)).trans hu) ⟨_,q⟩ ?_
 exact ⟨hz,its',_,hv,q⟩
theorem Inv.lnew{its:List Value}{t':Nat}(I:Inv X pins σ H s)(hv:Vals ys its)(hz:ys.length ≤ sizeLine) :
  Inv X pins σ (upd H s.heap.objs.size (.lst ys)) { s with heap:=s.heap.push { cls:=.type "list",data:=.seq its.toArray },toks:=t' } :=
 I.laid (fun _ _ q=>Heap.get?_push_of_some _ q) (Nat.le_refl _) ⟨hz,its,0,hv,Heap.get?_push_size _ rfl⟩
theorem Inv.fresh(I:Inv X pins σ H s):H s.heap.objs.size=none:=I.hok.fresh (Nat.le_refl _)
theorem Inv.lstM(I:Inv X pins σ H s)(hH:H l=some (.lst xs)):xs.length ≤ sizeLine∧∃ (its:List Value) (n:Nat),Vals xs its∧xs.length=its.length∧s.heap.get? l=some { cls:=.type "list",data:=.seq its.toArray n }:=by
 obtain ⟨z,its,n,r,e⟩:=I.hok l _ hH
 exact ⟨z,its,n,r,r.length,e⟩
theorem notLongL{n:Nat}(h:n ≤ sizeLine):Builtin.List.listTooLong n=false:=by
 unfold Builtin.List.listTooLong
 exact decide_eq_false (by omega)
end
section
variable {X:Cx}
noncomputable def rAppend:V→List V→Hp→VK→Prop:=fun x vs H Q=>∃ l xs y,x = .ref l∧vs=[y]∧H l=some (.lst xs)∧xs.length < sizeLine∧Q .non (upd H l (.lst (xs ++ [y])))
theorem mt_append:MtM X "list.append" rAppend:=by
 intro pins s σ H x vs v us Q I rx rv h
 obtain ⟨l,xs,y,rfl,rfl,hH,hz,q⟩:=h
 cases rx
 obtain ⟨u,rfl,ru⟩:=rv.one
 obtain ⟨z,its,n,r,hl,e⟩:=I.lstM hH
 refine call_meets F.slot_list_append ⟨_,e,rfl⟩ F.entry_list_append (F.args_list_append_2 _ _) (PySem.list_append l its.toArray n u (by rw [List.size_toArray];omega)) ⟨e,?_⟩
 refine ⟨.non,_,I.lset (its':=its ++ [u]) hH e (by simp) (r.append (.cons ru .nil)) ?_,rfl,q⟩
 rw [List.length_append,List.length_singleton]
 omega
noncomputable def rExtend:V→List V→Hp→VK→Prop:=fun x vs H Q=>∃ l b xs zs,x = .ref l∧vs=[.ref b]∧H l=some (.lst xs)∧H b=some (.lst zs)∧xs.length + zs.length ≤ sizeLine∧Q .non (upd H l (.lst (xs ++ zs)))
theorem mt_extend:MtM X "list.extend" rExtend:=by
 intro pins s σ H x vs v us Q I rx rv h
 obtain ⟨l,b,xs,zs,rfl,rfl,hH,hB,hz,q⟩:=h
 cases rx
 obtain ⟨u,rfl,ru⟩:=rv.one
 cases ru
 obtain ⟨z,its,n,r,hl,e⟩:=I.lstM hH
 obtain ⟨z2,its2,n2,r2,hl2,e2⟩:=I.lstM hB
 have hsz:its.toArray.size + its2.toArray.size ≤ sizeLine:=by rw [List.size_toArray,List.size_toArray];omega
 have hlong:¬ (!its.toArray.isEmpty && Builtin.List.listTooLong (its.toArray.size + its2.toArray.size))=true:=by
  rw [notLongL hsz,Bool.and_false]
  exact Bool.false_ne_true
 refine call_meets F.slot_list_extend ⟨_,e,rfl⟩ F.entry_list_extend (F.args_list_extend_2 _ _)
  (AutoSeq1.list_extend_list_list_0 l its.toArray n b its2.toArray n2 hlong (by rw [List.size_toArray];omega) (by omega)) ⟨e,e2,?_⟩
 refine ⟨.non,_,I.lset (its':=its ++ its2) hH e (by simp) (r.append r2) ?_,rfl,q⟩
 rw [List.length_append]
 omega
noncomputable def rPop:V→List V→Hp→VK→Prop:=fun x vs H Q=>∃ l xs y,x = .ref l∧vs=[]∧H l=some (.lst xs)∧xs[xs.length - 1]?=some y∧Q y (upd H l (.lst xs.dropLast))
theorem mt_pop:MtM X "list.pop" rPop:=by
 intro pins s σ H x vs v us Q I rx rv h
 obtain ⟨l,xs,y,rfl,rfl,hH,hy,q⟩:=h
 cases rx
 have hus:=rv.zero
 subst hus
 obtain ⟨z,its,n,r,hl,e⟩:=I.lstM hH
 obtain ⟨u,hu,ru⟩:=r.get hy
 have hy':its.toArray[its.toArray.size - 1]?=some u:=by
  show its.toArray[its.length - 1]?=some u
  rw [← Array.getElem?_toList,← hl]
  exact hu
 refine call_meets F.slot_list_pop ⟨_,e,rfl⟩ F.entry_list_pop (F.args_list_pop_1 _) (MeetsSeq.list_pop_last l its.toArray n u hy' (by rw [List.size_toArray];omega)) ⟨e,?_⟩
 refine ⟨y,_,I.lset (its':=its.dropLast) hH e ?_ r.dropLast ?_,ru,q⟩
 ·show its.toArray.eraseIdxIfInBounds (its.toArray.size - 1)=its.dropLast.toArray
  rw [List.size_toArray,List.eraseIdxIfInBounds_toArray,erase_last]
 ·rw [List.length_dropLast]
  omega
noncomputable def rPopAt:V→List V→Hp→VK→Prop:=fun x vs H Q=>∃ l xs i k y,x = .ref l∧vs=[.int i]∧H l=some (.lst xs)∧-(2 ^ 63) ≤ i∧i < 2 ^ 63∧seqIndex? i xs.length=some k∧xs[k]?=some y∧Q y (upd H l (.lst (xs.eraseIdx k)))
theorem mt_popAt:MtM X "list.pop" rPopAt:=by
 intro pins s σ H x vs v us Q I rx rv h
 obtain ⟨l,xs,i,k,y,rfl,rfl,hH,h1,h2,hk,hy,q⟩:=h
 cases rx
 obtain ⟨u,rfl,ru⟩:=rv.one
 obtain ⟨t,rfl⟩:=ru
 obtain ⟨z,its,n,r,hl,e⟩:=I.lstM hH
 obtain ⟨w,hw,rw'⟩:=r.get hy
 refine call_meets F.slot_list_pop ⟨_,e,rfl⟩ F.entry_list_pop (F.args_list_pop_2 _ _)
  (MeetsSeq.list_pop_at l its.toArray n i t k w (fitsIndex_both h1 h2) (by rw [List.size_toArray,← hl];exact hk) (by rw [← Array.getElem?_toList];exact hw) (by rw [List.size_toArray];omega)) ⟨e,?_⟩
 refine ⟨y,_,I.lset (its':=its.eraseIdx k) hH e ?_ (r.eraseIdx k) ?_,rw',q⟩
 ·show its.toArray.eraseIdxIfInBounds k=(its.eraseIdx k).toArray
  rw [List.eraseIdxIfInBounds_toArray]
 ·have:=len_erase xs k
  omega
noncomputable def rClear:V→List V→Hp→VK→Prop:=fun x vs H Q=>∃ l xs,x = .ref l∧vs=[]∧H l=some (.lst xs)∧Q .non (upd H l (.lst []))
theorem mt_clear:MtM X "list.clear" rClear:=by
 intro pins s σ H x vs v us Q I rx rv h
 obtain ⟨l,xs,rfl,rfl,hH,q⟩:=h
 cases rx
 have hus:=rv.zero
 subst hus
 obtain ⟨z,its,n,r,hl,e⟩:=I.lstM hH
 refine call_meets F.slot_list_clear ⟨_,e,rfl⟩ F.entry_list_clear (F.args_list_clear_1 _) (AutoSeq1.list_clear_list_0 l its.toArray n (by rw [List.size_toArray];omega)) ⟨e,?_⟩
 exact ⟨.non,_,I.lset (its':=[]) (ys:=[]) hH e rfl .nil (Nat.zero_le _),rfl,q⟩
noncomputable def rCat:R2:=fun x y H Q=>∃ l b xs zs,x = .ref l∧y = .ref b∧H l=some (.lst xs)∧H b=some (.lst zs)∧xs.length + zs.length ≤ sizeLine∧∀ p,H p=none→Q (.ref p) (upd H p (.lst (xs ++ zs)))
theorem op_cat:OpR X (binaryOp .Add) rCat:=by
 intro pins s σ H x y v u Q I rx ry h
 obtain ⟨l,b,xs,zs,rfl,rfl,hH,hB,hz,q⟩:=h
 cases rx
 cases ry
 obtain ⟨z,its,n,r,hl,e⟩:=I.lstM hH
 obtain ⟨z2,its2,n2,r2,hl2,e2⟩:=I.lstM hB
 refine PySem.P.add_list e e2 ?_ (by rw [List.size_toArray,List.size_toArray];omega)
 have ea:its.toArray ++ its2.toArray=(its ++ its2).toArray:=by simp
 rw [ea]
 exact ⟨.ref _,_,I.lnew (t':=s.toks) (r.append r2) (by rw [List.length_append];omega),rfl,q _ I.fresh⟩
noncomputable def rRep:R2:=fun x y H Q=>∃ l k xs,x = .ref l∧y = .int k∧H l=some (.lst xs)∧-(2 ^ 63) ≤ k∧k < 2 ^ 63∧xs.length * k.toNat ≤ sizeLine ∧
 ∀ p,H p=none→Q (.ref p) (upd H p (.lst (List.replicate k.toNat xs).flatten))
theorem len_rep{α:Type}(xs:List α)(k:Nat):(List.replicate k xs).flatten.length=k * xs.length:=by
 induction k with
 |zero=>simp
 |succ k ih=>rw [List.replicate_succ,List.flatten_cons,List.length_append,ih,Nat.succ_mul,Nat.add_comm]
theorem op_rep:OpR X (binaryOp .Mult) rRep:=by
 intro pins s σ H x y v u Q I rx ry h
 obtain ⟨l,k,xs,rfl,rfl,hH,h1,h2,hz,q⟩:=h
 cases rx
 obtain ⟨t,rfl⟩:=ry
 obtain ⟨z,its,n,r,hl,e⟩:=I.lstM hH
 have hlen:its.toArray.size * k.toNat ≤ sizeLine:=by rw [List.size_toArray,← hl];exact hz
 have hcap:¬ its.toArray.size * k.toNat > (2 ^ 63 - 1) / 8:=by
  have:(sizeLine:Nat) ≤ (2 ^ 63 - 1) / 8:=by decide
  omega
 have hfit:¬ (!Builtin.List.listFitsIndex k)=true:=by
  rw [fitsIndex_both h1 h2]
  exact Bool.false_ne_true
 have hlong:¬ Builtin.List.listTooLong (its.toArray.size * k.toNat)=true:=by
  rw [notLongL hlen]
  exact Bool.false_ne_true
 have hnew:List.foldl (fun x1 x2=>x1 ++ x2) #[] (List.replicate (if its.toArray.isEmpty=true then 0 else k.toNat) its.toArray)=(List.replicate k.toNat its).flatten.toArray:=by
  have f0:∀ m:Nat,List.foldl (fun x1 x2=>x1 ++ x2) #[] (List.replicate m its.toArray)=(List.replicate m its).flatten.toArray:=fun m=>by
   have:=foldl_rep its m []
   rw [List.nil_append] at this
   exact this
  rw [f0]
  cases its with
  |nil=>simp
  |cons a r'=>rw [if_neg (by simp)]
 refine wpAny_binaryOp_repeat_ref (T:= "list") (U:= "int") (by decide) ⟨_,e,rfl⟩ (fun s'=>typeIs_int s' k t) noFill_list_mul F.fills_int_mul F.slot_int_rmul repeat_list F.slot_int_index.lookup
  (call_meets F.slot_int_rmul (typeIs_int s k t) F.entry_int_rmul (F.args_int_rmul_2 _ _) (int___rmul___int_list k t l its.toArray n)
   ⟨e,rfl,⟨_,e,rfl⟩,call_meets F.slot_list_mul ⟨_,e,rfl⟩ F.entry_list_mul (F.args_list_mul_2 _ _) (AutoListH.list___mul___list_int_3 l its.toArray n k t hfit hcap hlong) ⟨e,?_⟩⟩)
 rw [hnew]
 exact ⟨.ref _,_,I.lnew (t':=s.toks) (r.rep k.toNat) (by rw [len_rep,Nat.mul_comm];exact hz),rfl,q _ I.fresh⟩
end
section
variable {prog:Program} {w:World} {A:Around} {E:Value→Shared→Prop} {s:Shared}
end
section
variable {X:Cx}
end
end L2
namespace Att
open PySem PySem.W PySem.Calls PyProof.Rows
theorem ints_of_wellAll{P:Params}{h:Heap}:∀ (ns:List Int) (vs:List Value),WellAll P h vs (ns.map WData.int)→IntsAre vs ns:=by
 intro ns
 induction ns with
 |nil =>
  intro vs w
  rw [List.map_nil] at w
  cases w
  exact .nil
 |cons n ns ih =>
  intro vs w
  rw [List.map_cons] at w
  cases w with
  |cons a b =>
   cases a
   exact .cons _ _ (ih _ b)
theorem script_of{l:OpenLaw}{n:Nat}(hn:l.most=some n){P:Params}{h:Heap}{args:List WData}{vals:List Value}
  (hpre:l.row.toRowW.claim.pre args=true) (hwl:WellAll P h vals args) :
  ∃ a vs ns,vals=[Value.ref a]∧args=[WData.list (ns.map WData.int)]∧h.get? a=some { cls:=.type "list",data:=.seq vs.toArray }∧IntsAre vs ns∧ns.length ≤ n:=by
 have hsh:WShape.hasAll [] args [.list .int]=true:=(pre_splitW hpre).1
 have hc:l.pre.holds [] { args:=args }=true:=(pre_splitW hpre).2
 obtain ⟨d,r,rfl,h1,h2⟩:=hasAllW_cons hsh
 obtain rfl:=hasAllW_nil h2
 obtain ⟨xs,rfl,h3⟩:=hasW_list h1
 obtain ⟨ns,rfl⟩:=items_int h3
 have hlen:ns.length ≤ n:=by
  unfold OpenLaw.pre at hc
  have h4:(WTm.not (.lt (.lit (.int (n:Int))) (.len (.arg 0)))).holds [] { args:=[.list (ns.map .int)] }=true:=by
   have h4:=(holds_andW hc).1
   rw [hn] at h4
   exact h4
  have h5:=condW_of h4 (w_not (w_lt w_lit (w_len_list (w_arg rfl))))
  rw [List.length_map] at h5
  refine Nat.le_of_not_lt fun q=>?_
  have q':(n:Int) < ((ns.length:Nat):Int):=by omega
  first
   |(rw [decide_eq_true q'] at h5;exact absurd h5 (by decide))
   |(simp at h5;omega)
 cases hwl with
 |cons w1 w2 =>
  cases w2
  cases w1 with
  |list ho hall=>exact ⟨_,_,ns,rfl,rfl,ho,ints_of_wellAll ns _ hall,hlen⟩
theorem post_true(l:OpenLaw)(args:List WData):l.row.toRowW.claim.post args (.bool true) args=true :=
 postW_of (r:=l.row.toRowW) (X:=(true == true))
  (show WShape.has [] (.bool true) .bool=true by first | rfl | decide | simp [WShape.has,WShape.arms,WShape.armsAll])
  (show (WTm.eq .res (.lit (.bool true))).value [] { args:=args,res:=some (.bool true),after:=args }=some (.bool (true == true)) from w_eq_bool (w_res rfl) w_lit) rfl
section
variable {prog:Program} {w:World} {A:Around} {E:Value→Shared→Prop} {s:Shared} {K:Frag}
end
end Att
namespace L2
open PySem PySem.Spec PyProof.Rows
theorem vals_ints:∀ {vs:List Value} {ns:List Int},IntsAre vs ns→Vals (ns.map V.int) vs
 |_,_,.nil=>.nil
 |_,_,.cons n t h=>.cons ⟨t,rfl⟩ (vals_ints h)
noncomputable def Only(H:Hp):Prop:=∀ b,H b=none∨∃ o xs,H b=some (.frz o (.lst xs))
theorem law_call{P:Program}{w:World}{K:PySem.W.Frag}{mg mb:Str→Option Value}{CX:CXT}{k:Nat}{fa a:Addr}{fd:FuncData}{x:Str}{sp:Sp}{s₁:Shared}{vs:List Value}{ns:List Int}
  (KX:K.In s₁.heap) (hns:s₁.heap.Ns mainGlobals mg) (hb:s₁.heap.Ns builtinsNs mb) (hbb:∀ x:Str,x ≠ "__name__"→mb x=bootBuiltins x) (hlim:s₁.heap.NoLimit) (hg:s₁.gens = #[])
  (ha:s₁.heap.get? a=some { cls:=.type "list",data:=.seq vs.toArray }) (hi:IntsAre vs ns) (hl:ns.length ≤ sizeLine) (hr:Room k callerA)
  (F:∀ base:Heap,K.In base→base.Ns mainGlobals mg→FnOk P w K mg base CX k fa fd [x] sp) (hbind:∀ (s:Shared) (u:Value),BindsTo s fd ⟨[u],[]⟩ [(x,u)])
  (hsp:∀ H:Hp,Only H→SqL K H a (ns.map V.int)→sp [.ref a] H (fun v _=>v = .bl true) fun _ _ _=>False)
  (hCX:∀ H e s',CX [] H s₁ (fun _ _ _=>False) e s'→False) :
  codeAny (model P w) callerA (.call (.ref fa) ⟨[.ref a],[]⟩) (fun r s'=>r = .ok (.ret (.bool true))∧OldK s₁.heap s'.heap∧s'.os=s₁.os∧AllBare s'.gens) s₁:=by
 have rv:=vals_ints hi
 have lenV:=hi.length
 have core:∀ H:Hp,Only H→SqL K H a (ns.map V.int)→HOk P w H s₁.heap→(∀ b,H b ≠ none→b=a)→(H a ≠ none→K.lookup a=none) →
   codeAny (model P w) callerA (.call (.ref fa) ⟨[.ref a],[]⟩) (fun r s'=>r = .ok (.ret (.bool true))∧OldK s₁.heap s'.heap∧s'.os=s₁.os∧AllBare s'.gens) s₁:=by
  intro H hO hS hok hA hK
  have base_of:∀ {b:Addr} {o:Obj},s₁.heap.get? b=some o→H b=none→(hidT s₁.heap H).get? b=some o:=fun e n=>hidT_get e n
  have noA:∀ {b:Addr} {o:Obj} {es:Array DictEntry} {ep:Nat},s₁.heap.get? b=some o→o.data = .dict es ep→H b=none:=fun {b o es ep} e d=>by
   cases q:H b with
   |none=>rfl
   |some u =>
    have e':b=a:=hA b (by rw [q];simp)
    subst e'
    rw [ha] at e;cases e
    have d':Data.seq vs.toArray _=Data.dict es ep:=d
    cases d'
  have nsK:∀ {b:Addr} {m:Str→Option Value},s₁.heap.Ns b m→(hidT s₁.heap H).Ns b m:=fun {b m} ⟨o,es,ep,e,d,r⟩=>⟨o,es,ep,base_of e (noA e d),d,r⟩
  have hKb:K.In (hidT s₁.heap H):=fun b o e=>base_of (KX b o e) (by
   cases q:H b with
   |none=>rfl
   |some u =>
    have e':b=a:=hA b (by rw [q];simp)
    subst e'
    rw [hK (by rw [q];simp)] at e;cases e)
  have hM:Mod K mg (hidT s₁.heap H):=⟨hKb,nsK hns,⟨mb,nsK hb,hbb⟩,let ⟨mc,h1,h2⟩:=hlim;⟨mc,nsK h1,h2⟩⟩
  have e0:Env0 P w K mg (hidT s₁.heap H) callerA [] s₁ H:=⟨rfl,hM,fun b o e=>of_hidT e,Nat.le_of_eq (hidT_size _ _),trivial,fun b hb=>absurd (show b ∈ ([]:List Addr) from hb) (by simp),hok,.of_eq hg⟩
  refine codeAny_mono ((F _ hKb (nsK hns)).run callerA [] s₁ H ⟨[.ref a],[]⟩ [.ref a] [.ref a] _ _ hr e0 (hbind s₁ (.ref a)) (.cons rfl .nil) (hsp H hO hS)) fun r s' h=>?_
  cases r with
  |error e=>exact (hCX H e s' h).elim
  |ok fl =>
   cases fl with
   |next=>exact False.elim h
   |brk=>exact False.elim h
   |cont=>exact False.elim h
   |ret u =>
    obtain ⟨v,H',os,bare,un,hok',r',q⟩:=h
    have q':v = .bl true:=q
    subst q'
    obtain rfl:u=Value.bool true:=r'
    refine ⟨rfl,OldK.of_keep fun b o e=>?_,os,bare⟩
    cases q:H b with
    |none=>exact un.keep b o e q (by intro z;exact absurd (show b ∈ ([]:List Addr) from z) (by simp)) (by simp)
    |some u =>
     rcases hO b with z | ⟨ob,xs,z⟩
     ·rw [q] at z;cases z
     ·have z2:=un.frzs b ob _ z
      obtain ⟨e1,_⟩:=hok b _ z
      obtain ⟨e2,_⟩:=hok' b _ z2
      rw [e] at e1;cases e1
      exact e2
 cases hk:K.lookup a with
 |some o =>
  have e:=KX a o hk
  rw [ha] at e
  cases e
  refine core (fun _=>none) (fun _=>.inl rfl) (.inr ⟨_,vs.toArray,_,hk,rfl,rfl,rfl,by rw [List.size_toArray,lenV];exact hl,by simpa using rv⟩) (fun b u z=>by have z':(none:Option HO)=some u:=z;cases z') (fun b z=>absurd rfl z) fun z=>absurd rfl z
 |none =>
  refine core (fun b=>if b=a then some (.frz { cls:=.type "list",data:=.seq vs.toArray } (.lst (ns.map V.int))) else none) (fun b=>?_) (.inl (.inr ⟨{ cls:=.type "list",data:=.seq vs.toArray },if_pos rfl⟩)) (fun b u z=>?_) (fun b z=>?_) fun _=>hk
  ·by_cases hb:b=a
   ·exact .inr ⟨_,_,if_pos hb⟩
   ·exact .inl (if_neg hb)
  ·by_cases hb:b=a
   ·have z':=(if_pos hb).symm.trans z
    cases z'
    subst hb
    exact ⟨ha,by rw [List.length_map];exact hl,vs,_,rv,ha⟩
   ·have z':=(if_neg hb).symm.trans z
    cases z'
  ·by_cases hb:b=a
   ·exact hb
   ·exact absurd (if_neg hb) z
end L2
namespace L2
open PySem PySem.Spec PyProof.Rows
end L2
namespace L2
open PySem PySem.Spec PyProof.Rows
noncomputable def defArgs(s:Stmt):Arguments:=match s with
 |.FunctionDef _ a _ _ _ _ _ _ _ _=>a
 |_=>{ posonlyargs:=[],args:=[],vararg:=none,kwonlyargs:=[],kw_defaults:=[],kwarg:=none,defaults:=[] }
noncomputable def defBody(s:Stmt):List Stmt:=match s with
 |.FunctionDef _ _ b _ _ _ _ _ _ _=>b
 |_=>[]
noncomputable def defScope(s:Stmt):Scope:=match s with
 |.FunctionDef _ _ _ _ _ _ sc _ _ _=>sc
 |_=>{ kind:=.function,names:=[],isGenerator:=false,isCoroutine:=false }
noncomputable abbrev CX0:CXT:=fun _ _ _ _ _ _=>False
noncomputable abbrev E0:XK:=fun _ _ _=>False
theorem pass0{X:Cx}:Passes CX0 X E0:=fun _ _ _ _ _ _ _ h=>h.elim
structure Fun(K:PySem.W.Frag)(x qual:Str)(st:Stmt)(f:Addr)(fd:FuncData):Prop where
 ex:∃ (oc:Value) (od:Option Addr) (dV kV doc pm:Value) (an:Option Addr) (cdv ct:Value) (osl:Array (Option Value)),
  fd=PySem.W.fnOf x qual (defArgs st) (defBody st) (defScope st) dV kV doc pm an cdv ct∧K.lookup f=some ⟨oc,od,.func fd,osl⟩∧PySem.W.codeIn K cdv qual=true
 kp:PySem.W.keepIn K (.ref f)=true
section
variable {P:Program} {w:World} {K:PySem.W.Frag} {mg:Str→Option Value} {base:Heap}
theorem Fun.ok{x qual:Str}{st:Stmt}{f:Addr}{fd:FuncData}{N ps:List Str}{k:Nat}{sp:Sp}(F:Fun K x qual st f fd)(S:FnScope N ps (defScope st))(len:∀ vs H Q E,sp vs H Q E→vs.length=ps.length)
  (hbody:∀ (cdv:Value) (A:Around) (outer:List Env) (s:Shared) (H:Hp) (vs:List V) (Q:VK) (E:XK),Room k (A.deeper (envOfC qual (defScope st) s.heap.objs.size f cdv))→sp vs H Q E →
   ∃ t,PSs (cxOf CX0 P w K mg base N qual (defScope st) f cdv A outer s H E).nox (defBody st) t∧t { nx:=fun _ H'=>Q .non H',rt:=Q } (start N vs) H):FnOk P w K mg base CX0 (k + 1) f fd ps sp:=by
 obtain ⟨oc,od,dV,kV,doc,pm,an,cdv,ct,osl,rfl,lk,hcd⟩:=F.ex
 refine fn_of lk hcd S len fun A outer s H vs Q E hr hsp=>?_
 obtain ⟨t,h,q⟩:=hbody cdv A outer s H vs Q E hr hsp
 exact ⟨t,h.nox,q⟩
theorem fun_mk{x qual:Str}{st:Stmt}{f:Addr}{oc:Value}{od an:Option Addr}{osl:Array (Option Value)}{dV kV doc pm cdv ct:Value}(l:K.lookup f=some ⟨oc,od,.func (PySem.W.fnOf x qual (defArgs st) (defBody st) (defScope st) dV kV doc pm an cdv ct),osl⟩)
  (c:PySem.W.codeIn K cdv qual=true) (k:PySem.W.keepIn K (.ref f)=true):Fun K x qual st f (PySem.W.fnOf x qual (defArgs st) (defBody st) (defScope st) dV kV doc pm an cdv ct):=⟨⟨oc,od,dV,kV,doc,pm,an,cdv,ct,osl,rfl,l,c⟩,k⟩
end
section
variable {X:Cx}
end
theorem iteF{A B:Prop}(h:B):if false=true then A else B:=by
 rw [if_neg Bool.false_ne_true]
 exact h
theorem iteT{A B:Prop}(h:A):if true=true then A else B:=by
 rw [if_pos rfl]
 exact h
end L2
namespace L2
open PySem PySem.Spec PyProof.Rows
theorem relabel_lookup{env:Env}:∀ {names:List (Str×NameKind)} {x:Str},
  (names.map fun (n,k)=>if (k == NameKind.free && env.scope.kind == .function && env.kindOf n == some .cell) then (n,NameKind.cell) else (n,k)).lookup x
   = (names.lookup x).map fun k=>if (k == NameKind.free && env.scope.kind == .function && env.kindOf x == some .cell) then NameKind.cell else k
 |[],_=>rfl
 |(n,k) :: r,x=>by
  have ih:=@relabel_lookup env r x
  show List.lookup x ((if (k == NameKind.free && env.scope.kind == .function && env.kindOf n == some .cell)=true then (n,NameKind.cell) else (n,k)) :: _)=_
  cases hx:x == n with
  |true =>
   have e:x=n:=beq_iff_eq.mp hx
   subst e
   by_cases hc:(k == NameKind.free && env.scope.kind == .function && env.kindOf x == some .cell)=true
   ·rw [if_pos hc];simp only [List.lookup_cons,hx,Option.map_some];rw [if_pos hc]
   ·rw [if_neg hc];simp only [List.lookup_cons,hx,Option.map_some];rw [if_neg hc]
  |false =>
   by_cases hc:(k == NameKind.free && env.scope.kind == .function && env.kindOf n == some .cell)=true
   ·rw [if_pos hc];simp only [List.lookup_cons,hx];exact ih
   ·rw [if_neg hc];simp only [List.lookup_cons,hx];exact ih
theorem relabel_free{scope:Scope}{env:Env}{x:Str}(h:scope.names.lookup x=some .free):(relabel scope env).names.lookup x=some .cell∨(relabel scope env).names.lookup x=some .free:=by
 have e:(relabel scope env).names.lookup x=_:=relabel_lookup (env:=env) (names:=scope.names) (x:=x)
 rw [e,h,Option.map_some]
 split
 ·exact .inl rfl
 ·exact .inr rfl
theorem relabel_back{scope:Scope}{env:Env}{x:Str}(h:(relabel scope env).names.lookup x=some .cell∨(relabel scope env).names.lookup x=some .free):scope.names.lookup x=some .cell∨scope.names.lookup x=some .free:=by
 have e:(relabel scope env).names.lookup x=_:=relabel_lookup (env:=env) (names:=scope.names) (x:=x)
 rw [e] at h
 cases q:scope.names.lookup x with
 |none=>rw [q] at h;simp at h
 |some k =>
  rw [q,Option.map_some] at h
  by_cases hc:(k == NameKind.free && env.scope.kind == .function && env.kindOf x == some .cell)=true
  ·have:(k == NameKind.free)=true:=by
    rw [Bool.and_eq_true,Bool.and_eq_true] at hc;exact hc.1.1
   have:k = .free:=by simpa using this
   subst this;exact .inr rfl
  ·rw [if_neg hc] at h
   rcases h with h | h
   ·exact .inl h
   ·exact .inr h
noncomputable def closL(cells:List (Str×Addr)):List (Str×NameKind)→List (Str×Addr)→List (Str×Addr)
 |[],acc=>acc
 |(n,k) :: r,acc=>if k == .free then closL cells r ((n,(cells.lookup n).getD 0) :: acc) else closL cells r acc
theorem closureFor_eq{scope:Scope}{env:Env}(h:∀ n,(n,NameKind.free) ∈ scope.names→(env.cells.lookup n).isSome=true):closureFor scope env=pure (closL env.cells scope.names []):=by
 have all:∀ (names:List (Str×NameKind)) (acc:List (Str×Addr)),(∀ n,(n,NameKind.free) ∈ names→(env.cells.lookup n).isSome=true) →
   (forIn names acc fun x cs=>(if x.2 == NameKind.free then do let c ← cellOf env x.1;pure (ForInStep.yield ((x.1,c) :: cs)) else pure (ForInStep.yield cs):Sem (ForInStep (List (Str×Addr)))))=pure (closL env.cells names acc):=by
  intro names
  induction names with
  |nil=>intro acc _;rfl
  |cons p r ih =>
   intro acc hp
   obtain ⟨n,k⟩:=p
   rw [List.forIn_cons]
   by_cases hk:(k == NameKind.free)=true
   ·have ek:k = .free:=by simpa using hk
    obtain ⟨c,hc⟩:=Option.isSome_iff_exists.mp (hp n (by rw [ek];exact List.mem_cons_self))
    have e1:cellOf env n=pure c:=by unfold cellOf;rw [hc]
    dsimp only
    rw [if_pos hk,e1]
    have e2:closL env.cells ((n,k) :: r) acc=closL env.cells r ((n,c) :: acc):=by
     show (if k == .free then _ else _)=_
     rw [if_pos hk,hc];rfl
    rw [e2,← ih ((n,c) :: acc) fun m hm=>hp m (List.mem_cons_of_mem _ hm)]
    rfl
   ·dsimp only
    rw [if_neg hk]
    have e2:closL env.cells ((n,k) :: r) acc=closL env.cells r acc:=by
     show (if k == .free then _ else _)=_
     rw [if_neg hk]
    rw [e2,← ih acc fun m hm=>hp m (List.mem_cons_of_mem _ hm)]
    rfl
 have q:=all scope.names [] h
 unfold closureFor
 show ((forIn scope.names [] fun x cs=>(if x.2 == NameKind.free then do let c ← cellOf env x.1;pure (ForInStep.yield ((x.1,c) :: cs)) else pure (ForInStep.yield cs):Sem (ForInStep (List (Str×Addr))))) >>= fun cs=>pure cs)=_
 rw [q]
 rfl
theorem closL_mem{cells:List (Str×Addr)}:∀ {names:List (Str×NameKind)} {acc:List (Str×Addr)} {n:Str} {c:Addr},(n,c) ∈ closL cells names acc→(n,c) ∈ acc∨((n,NameKind.free) ∈ names∧(cells.lookup n).getD 0=c)
 |[],_,_,_,h=>.inl h
 |(m,k) :: r,acc,n,c,h=>by
  have h:(n,c) ∈ (if k == .free then closL cells r ((m,(cells.lookup m).getD 0) :: acc) else closL cells r acc):=h
  by_cases hk:(k == NameKind.free)=true
  ·rw [if_pos hk] at h
   have ek:k = .free:=by simpa using hk
   rcases closL_mem h with q | ⟨q1,q2⟩
   ·rcases List.mem_cons.mp q with q | q
    ·cases q
     exact .inr ⟨by rw [ek];exact List.mem_cons_self,rfl⟩
    ·exact .inl q
   ·exact .inr ⟨List.mem_cons_of_mem _ q1,q2⟩
  ·rw [if_neg hk] at h
   rcases closL_mem h with q | ⟨q1,q2⟩
   ·exact .inl q
   ·exact .inr ⟨List.mem_cons_of_mem _ q1,q2⟩
theorem closL_has{cells:List (Str×Addr)}:∀ {names:List (Str×NameKind)} {acc:List (Str×Addr)} {n:Str},((n,NameKind.free) ∈ names∨∃ c,(n,c) ∈ acc)→∃ c,(n,c) ∈ closL cells names acc
 |[],_,_,h=>h.elim (fun z=>nomatch z) id
 |(m,k) :: r,acc,n,h=>by
  show ∃ c,(n,c) ∈ (if k == .free then closL cells r ((m,(cells.lookup m).getD 0) :: acc) else closL cells r acc)
  by_cases hk:(k == NameKind.free)=true
  ·rw [if_pos hk]
   refine closL_has ?_
   rcases h with h | ⟨c,h⟩
   ·rcases List.mem_cons.mp h with h | h
    ·cases h;exact .inr ⟨_,List.mem_cons_self⟩
    ·exact .inl h
   ·exact .inr ⟨c,List.mem_cons_of_mem _ h⟩
  ·rw [if_neg hk]
   refine closL_has ?_
   rcases h with h | ⟨c,h⟩
   ·rcases List.mem_cons.mp h with h | h
    ·cases h;exact absurd rfl hk
    ·exact .inl h
   ·exact .inr ⟨c,h⟩
theorem lookup_of_mem_all{α:Type}{n:Str}{c:α}:∀ {l:List (Str×α)},(n,c) ∈ l→(∀ d,(n,d) ∈ l→d=c)→l.lookup n=some c
 |[],h,_=>nomatch h
 |(m,d) :: r,h,all=>by
  rw [List.lookup_cons]
  cases hb:n == m with
  |true =>
   have e:n=m:=beq_iff_eq.mp hb
   subst e
   rw [all d List.mem_cons_self]
  |false =>
   rcases List.mem_cons.mp h with q | q
   ·cases q;simp at hb
   ·exact lookup_of_mem_all q fun d' hd=>all d' (List.mem_cons_of_mem _ hd)
theorem cellsFrom_app:∀ (names:List (Str×NameKind)) (n:Nat) (acc:List (Str×Addr)),cellsFrom n names acc=cellsFrom n names [] ++ acc
 |[],_,_=>rfl
 |(x,k) :: r,n,acc=>by
  unfold cellsFrom
  split
  ·rw [cellsFrom_app r (n + 1) ((x,n) :: acc),cellsFrom_app r (n + 1) [(x,n)],List.append_assoc];rfl
  ·exact cellsFrom_app r n acc
theorem cellsFrom_kind:∀ {names:List (Str×NameKind)} {n:Nat} {x:Str} {c:Addr},(x,c) ∈ cellsFrom n names []→(x,NameKind.cell) ∈ names
 |[],_,_,_,h=>nomatch h
 |(y,k) :: r,n,x,c,h=>by
  unfold cellsFrom at h
  split at h
  ·rename_i hk
   have ek:k = .cell:=by simpa using hk
   rw [cellsFrom_app] at h
   rcases List.mem_append.mp h with q | q
   ·exact List.mem_cons_of_mem _ (cellsFrom_kind q)
   ·cases List.mem_singleton.mp q
    rw [ek];exact List.mem_cons_self
  ·exact List.mem_cons_of_mem _ (cellsFrom_kind h)
theorem lookup_nodup{α:Type}{n:Str}{c d:α}:∀ {l:List (Str×α)},(l.map (·.1)).Nodup→l.lookup n=some c→(n,d) ∈ l→d=c
 |[],_,_,h=>nomatch h
 |(m,e) :: r,hn,hl,hm=>by
  have hn:(m :: r.map (·.1)).Nodup:=hn
  obtain ⟨h1,h2⟩:=List.nodup_cons.mp hn
  rw [List.lookup_cons] at hl
  cases hb:n == m with
  |true =>
   rw [hb] at hl
   have e1:n=m:=beq_iff_eq.mp hb
   subst e1
   rcases List.mem_cons.mp hm with q | q
   ·cases q;cases hl;rfl
   ·exact absurd (List.mem_map.mpr ⟨(n,d),q,rfl⟩) h1
  |false =>
   rw [hb] at hl
   rcases List.mem_cons.mp hm with q | q
   ·cases q;simp at hb
   ·exact lookup_nodup h2 hl q
noncomputable def cxComp(X:Cx)(N':List Str)(scope:Scope)(s:Shared)(H:Hp)(fp:List Addr):Cx :=
 { X with N:=N',s₀:=s,H₀:=H,env:=compEnvC scope (cellsFrom (s.heap.objs.size + 1) scope.names (closL X.env.cells scope.names [])) s.heap.objs.size X.env,outer:=X.stack,ex:=fp,fn:=fun x=>scope.names.lookup x == some .cell,pn:=[],xe:=fun _ _=>False }
noncomputable def compSt(js:List (Option Nat))(σ:St):St:=js.map fun j=>match j with
 |some j=>(σ[j]?).getD none
 |none=>none
noncomputable def frB(X:Cx)(scope:Scope):Bool:=scope.names.all fun p=>p.2 != .free || X.env.kindOf p.1 == some .cell || X.env.kindOf p.1 == some .free
noncomputable def atB(X:Cx)(N':List Str)(js:List (Option Nat))(scope:Scope):Bool:=(js.zip N').all fun p=>match p.1 with
 |none=>true
 |some j=>X.N[j]? == some p.2 && scope.names.lookup p.2 == some .free
structure CompOk(X:Cx)(N':List Str)(js:List (Option Nat))(scope:Scope):Prop where
 kind:scope.kind = .function
 nd:(scope.names.map (·.1)).Nodup
 frb:frB X scope=true
 len:js.length=N'.length
 atb:atB X N' js scope=true
theorem CompOk.fr{X:Cx}{N':List Str}{js:List (Option Nat)}{scope:Scope}(C:CompOk X N' js scope):∀ n,(n,NameKind.free) ∈ scope.names→X.env.kindOf n=some .cell∨X.env.kindOf n=some .free:=fun n hn=>by
 have h:=List.all_eq_true.mp C.frb (n,.free) hn
 simp only [Bool.or_eq_true,bne_iff_ne,ne_eq,not_true_eq_false,false_or,beq_iff_eq] at h
 exact h
theorem CompOk.at_{X:Cx}{N':List Str}{js:List (Option Nat)}{scope:Scope}(C:CompOk X N' js scope):∀ (i j:Nat),js[i]?=some (some j)→∃ x,N'[i]?=some x∧X.N[j]?=some x∧scope.names.lookup x=some .free:=fun i j hj=>by
 have hi:i < js.length:=(List.getElem?_eq_some_iff.mp hj).1
 have hi':i < N'.length:=by rw [← C.len];exact hi
 have hz:(js.zip N')[i]?=some (some j,N'[i]):=by
  rw [List.getElem?_zip_eq_some]
  exact ⟨hj,by simp [hi']⟩
 have h:=List.all_eq_true.mp C.atb _ (List.mem_of_getElem? hz)
 simp only [Bool.and_eq_true,beq_iff_eq] at h
 exact ⟨N'[i],by simp [hi'],h.1,h.2⟩
section
variable {X:Cx} {pins:List (Addr×Obj)} {σ:St} {H:Hp} {s:Shared} {N':List Str} {js:List (Option Nat)} {scope:Scope} {fp:List Addr}
theorem comp_start(I:Inv X pins σ H s)(C:CompOk X N' js scope)(hf:∀ b ∈ fp,FpOk X pins H b)(ho:∀ b ∈ fp,∃ o,s.heap.get? b=some o) :
  Inv (cxComp X N' scope s H fp) [] (compSt js σ) H { s with heap:=pushCells (s.heap.push { cls:=.type "dict",data:=.dict #[] }) scope.names }:=by
 have keep:∀ b o,s.heap.get? b=some o→(pushCells (s.heap.push { cls:=.type "dict",data:=.dict #[] }) scope.names).get? b=some o:=fun b o e=>pushCells_keeps _ _ b o (Heap.get?_push_of_some _ e)
 have new:=cellsFrom_ok scope.names (s.heap.push { cls:=.type "dict",data:=.dict #[] }) (s.heap.objs.size + 1) [] ⟨fun _ _ hm=>(nomatch hm),List.Pairwise.nil⟩ (by rw [Heap.size_push];exact Nat.le_refl _)
 rw [Heap.size_push] at new
 have old:∀ n c,(n,c) ∈ closL X.env.cells scope.names []→X.env.cells.lookup n=some c:=fun n c h=>by
  rcases closL_mem h with q | ⟨q1,q2⟩
  ·exact nomatch q
  ·obtain ⟨d,hd⟩:=I.ok.has n (C.fr n q1)
   rw [hd] at q2
   rw [hd];exact congrArg some q2
 have oldlt:∀ n c,X.env.cells.lookup n=some c→c < s.heap.objs.size:=fun n c h=>by
  obtain ⟨v,q⟩:=I.cell n c h
  exact q.lt
 have mem:∀ n c,(cxComp X N' scope s H fp).env.cells.lookup n=some c→(n,c) ∈ cellsFrom (s.heap.objs.size + 1) scope.names []∨X.env.cells.lookup n=some c:=fun n c h=>by
  have h:(cellsFrom (s.heap.objs.size + 1) scope.names (closL X.env.cells scope.names [])).lookup n=some c:=h
  rw [cellsFrom_app] at h
  rcases List.mem_append.mp (PySem.mem_of_lookup h) with q | q
  ·exact .inl q
  ·exact .inr (old n c q)
 have lt:∀ b ∈ fp,b < s.heap.objs.size:=fun b hb=>let ⟨_,e⟩:=ho b hb;Heap.lt_size e
 have fre:∀ x c,scope.names.lookup x=some .free→X.env.cells.lookup x=some c→(cxComp X N' scope s H fp).env.cells.lookup x=some c:=fun x c hx hc=>by
  show (cellsFrom (s.heap.objs.size + 1) scope.names (closL X.env.cells scope.names [])).lookup x=some c
  have hm:=PySem.mem_of_lookup hx
  obtain ⟨d,hd⟩:=closL_has (cells:=X.env.cells) (acc:=[]) (.inl hm)
  have ed:∀ d',(x,d') ∈ closL X.env.cells scope.names []→d'=c:=fun d' h'=>Option.some.inj ((old x d' h').symm.trans hc)
  refine lookup_of_mem_all ?_ fun d' h'=>?_
  ·rw [cellsFrom_app,← ed d hd];exact List.mem_append_right _ hd
  ·rw [cellsFrom_app] at h'
   rcases List.mem_append.mp h' with q | q
   ·exact absurd (lookup_nodup C.nd hx (cellsFrom_kind q)) (by decide)
   ·exact ed d' q
 refine ⟨⟨I.ok.mod,C.kind,I.ok.glob,I.ok.blt,Nat.le_refl _,fun x y c h1 h2=>?_,fun x hx=>?_,fun x c hx h=>?_,I.ok.hd,I.ok.frames,.inl rfl,fun b hb=>⟨Nat.ne_of_lt (lt b hb),fun x c h z=>?_⟩,fun b o e=>I.bs b o e,Nat.le_trans I.ok.bsz I.sz,fun b o e hb=>?_,fun b hb z=>?_,I.stack,I.stkFree⟩,
  rfl,I.bare,Un.kept keep,⟨_,(Heap.Ns.new s.heap (.type "dict")).keeps (pushCells_keeps _ _),fun i x v h1 h2 h3=>?_⟩,fun x c h=>?_,I.hok.fresh (Nat.le_refl _),fun x c h=>?_,fun p hp=>absurd (show p ∈ ([]:List (Addr×Obj)) from hp) (by simp),I.hok.kept keep,?_⟩
 ·rcases mem x c h1 with p1 | p1 <;> rcases mem y c h2 with p2 | p2
  ·exact name_of_addr new.apart p1 p2
  ·exact absurd (Nat.lt_of_lt_of_le (oldlt y c p2) (Nat.le_trans (Nat.le_succ _) (new.empty x c p1).2)) (Nat.lt_irrefl _)
  ·exact absurd (Nat.lt_of_lt_of_le (oldlt x c p1) (Nat.le_trans (Nat.le_succ _) (new.empty y c p2).2)) (Nat.lt_irrefl _)
  ·exact I.ok.inj x y c p1 p2
 ·rcases relabel_back (scope:=scope) (env:=X.env) hx with q | q
  ·exact Option.isSome_iff_exists.mp (PySem.W.cellsFrom_some scope.names _ _ (.inl q))
  ·obtain ⟨c,hc⟩:=I.ok.has x (C.fr x (PySem.mem_of_lookup q))
   exact ⟨c,fre x c q hc⟩
 ·have hx:scope.names.lookup x=some .cell:=by simpa [cxComp] using hx
  rcases mem x c h with q | q
  ·exact Nat.le_trans (Nat.le_succ _) (new.empty x c q).2
  ·
   have e:(cellsFrom (s.heap.objs.size + 1) scope.names (closL X.env.cells scope.names [])).lookup x=some c:=h
   rw [cellsFrom_app,List.lookup_append] at e
   obtain ⟨d,hd⟩:=Option.isSome_iff_exists.mp (PySem.W.cellsFrom_some scope.names (s.heap.objs.size + 1) [] (.inl hx))
   rw [hd] at e
   cases e
   exact Nat.le_trans (Nat.le_succ _) (new.empty x _ (PySem.mem_of_lookup hd)).2
 ·rcases mem x c h with q | q
  ·have:=(new.empty x c q).2
   rw [z] at this
   exact absurd (Nat.lt_of_lt_of_le (lt b hb) (Nat.le_trans (Nat.le_succ _) this)) (Nat.lt_irrefl _)
  ·exact (hf b hb).2.2.2.2.1 x c q z
 ·obtain ⟨_,_,_,h1,_⟩:=hf b hb
  rcases h1 with h1 | h1
  ·exact I.ok.noex b o e h1
  ·exact absurd (Nat.lt_of_lt_of_le (Heap.lt_size (I.ok.bs b o e).1) h1) (Nat.lt_irrefl _)
 ·obtain ⟨_,h1,h2,_⟩:=hf b hb
  exact (List.mem_cons.mp (I.stkSub b z)).elim h1 h2
 ·
  obtain ⟨j,hj,hv⟩:∃ j,js[i]?=some (some j)∧(σ[j]?).getD none=some v:=by
   have h2:(js.map fun j=>match j with | some j=>(σ[j]?).getD none | none=>none)[i]?=some (some v):=h2
   rw [List.getElem?_map] at h2
   cases e:js[i]? with
   |none=>rw [e] at h2;cases h2
   |some o =>
    rw [e] at h2
    cases o with
    |none=>cases h2
    |some j=>exact ⟨j,rfl,Option.some.inj h2⟩
  obtain ⟨y,e1,e2,e3⟩:=C.at_ i j hj
  have exy:y=x:=Option.some.inj (e1.symm.trans (show N'[i]?=some x from h1))
  rw [exy] at e2 e3
  have hs:σ[j]?=some (some v):=by
   cases e:σ[j]? with
   |none=>rw [e] at hv;cases hv
   |some o=>rw [e] at hv;exact congrArg some hv
  have kx:=C.fr x (PySem.mem_of_lookup e3)
  obtain ⟨m,hn,hl⟩:=I.loc
  obtain ⟨u,r,l⟩:=hl j x v e2 hs (kx.elim (fun z=>.inr (.inl z)) fun z=>.inr (.inr z))
  refine ⟨u,r,.inr ⟨relabel_free e3,?_⟩⟩
  rcases l with ⟨k,_⟩ | ⟨_,c,hc,hcell⟩
  ·rcases kx with z | z
   ·rw [z] at k;cases k
   ·rw [z] at k;cases k
  ·exact ⟨c,fre x c e3 hc,hcell.keeps keep⟩
 ·rcases mem x c h with q | q
  ·exact ⟨none,(new.empty x c q).1⟩
  ·obtain ⟨v,z⟩:=I.cell x c q
   exact ⟨v,z.keeps keep⟩
 ·rcases mem x c h with q | q
  ·exact I.hok.fresh (Nat.le_trans (Nat.le_succ _) (new.empty x c q).2)
  ·exact I.freeC x c q
 ·show (compSt js σ).length=N'.length
  unfold compSt
  rw [List.length_map,C.len]
theorem comp_env{M:Model}{A:Around}{E:Value→Shared→Prop}{env:Env}{cl:List (Str×Addr)}{Q:Env→Shared→Prop}
  (h:Q (newEnv scope s.heap.objs.size env.globals (cellsFrom (s.heap.objs.size + 1) scope.names cl) env.qual none .none (some env) builtinsNs) { s with heap:=pushCells (s.heap.push { cls:=.type "dict",data:=.dict #[] }) scope.names }) :
  wpAny M A (newFunctionEnv scope env.globals cl [] env.qual none .none (some env)) Q E s:=by
 simp only [newFunctionEnv,Option.isSome_some,if_true]
 refine wpAny_bind (wpAny_alloc ?_)
 refine wpAny_bind (wpAny_layCells _ (fun name kind cells=>by cases hkc:kind == NameKind.cell <;> simp [hkc]) _ _ _ _ ?_)
 rw [show ({ s with heap:=s.heap.push { cls:=.type "dict",data:=.dict #[] } }:Shared).heap.objs.size=s.heap.objs.size + 1 from Heap.size_push ..]
 simp only [List.forIn_nil]
 exact wpAny_bind (wpAny_pure (wpAny_pure h))
noncomputable def PF(X:Cx)(ifs:List Expr)(t:TT):Prop :=
 ∀ (pins:List (Addr×Obj)) (s:Shared) (σ:St) (H:Hp) (Q:Bool→Hp→Prop),Inv X pins σ H s→t σ H Q →
  wpAny (model X.prog X.w) X.A (forIn ifs true fun c r=>if r=true then do let ok ← isTrue c X.env (eval c X.env);pure (ForInStep.yield ok) else pure (ForInStep.yield r)) (TP X pins σ Q) X.xe s
noncomputable def tNoIf:TT:=fun _ H Q=>Q true H
theorem pf_nil:PF X [] tNoIf:=fun _ _ _ H _ I h=>wpAny_tests_nil ⟨H,I,h⟩
theorem pf_one{c:Expr}{t:TT}(h:PT X c t):PF X [c] t:=fun pins s σ H Q I q=>wpAny_tests_one (h pins s σ H Q I q)
theorem compLoop_any{prog:Program}{w:World}{A:Around}{R:Result→Shared→Prop}{s:Shared}{elt target iter:Expr}{ifs:List Expr}{scope:Scope}{pos:Pos}{it acc:Value}{env:Env}(I:Nat→Shared→Prop)
  (turn:∀ n s,I n s→wpAny (model prog w) A (pyNext it) (fun r s₁=>match r with
   |none=>R (.ok .next) s₁
   |some v=>wpAny (model prog w) A (letOwnedTupleGo target it v) (fun _ s₀=>wpAny (model prog w) A (assign target env v) (fun _ s₂ =>
     wpAny (model prog w) A (forIn ifs true fun c r=>if r=true then do let ok ← isTrue c env (eval c env);pure (ForInStep.yield ok) else pure (ForInStep.yield r)) (fun ok s₃ =>
      if ok=true then wpAny (model prog w) A (eval elt env) (fun x s₄ =>
       wpAny (model prog w) A (call (.builtin "list.append") [acc,x]) (fun _ s₅=>∃ m,m < n∧I m s₅) (notedBy (model prog w) A env fun e s'=>R (.error e) s') s₄) (notedBy (model prog w) A env fun e s'=>R (.error e) s') s₃
      else ∃ m,m < n∧I m s₃) (notedBy (model prog w) A env fun e s'=>R (.error e) s') s₂) (notedBy (model prog w) A env fun e s'=>R (.error e) s') s₀) (notedBy (model prog w) A env fun e s'=>R (.error e) s') s₁) (notedBy (model prog w) A env fun e s'=>R (.error e) s') s)
  (n:Nat) (h:I n s):codeAny (model prog w) A (.compLoop (.ListComp elt [⟨target,iter,ifs,0⟩] scope pos) 0 it acc env) R s:=by
 refine codeAny_loop rfl I (fun n s hI=>?_) n h
 show wpAny _ A ((compTurn (.ListComp elt [⟨target,iter,ifs,0⟩] scope pos) 0 it acc env).onRaise (fun x=>do noteFrame x env;theTreesLotGoes x)) _ _ s
 refine wpAny_noted ?_
 rw [compTurn_list]
 refine wpAny_bind (wpAny_standAt (wpAny_bind (wpAny_mono (turn n s hI) (fun r s₁ h₁=>?_) fun _ _ h'=>h')))
 cases r with
 |none=>exact wpAny_pure h₁
 |some v =>
  refine wpAny_bind (wpAny_mono h₁ (fun _ s₀ h₀=>?_) fun _ _ h'=>h')
  refine wpAny_bind (wpAny_mono h₀ (fun _ s₂ h₂=>wpAny_bind (wpAny_mono h₂ (fun ok s₃ h₃=>?_) fun _ _ h'=>h')) fun _ _ h'=>h')
  cases ok with
  |false=>exact wpAny_pure ⟨rfl,h₃⟩
  |true =>
   exact wpAny_bind (wpAny_bind (wpAny_mono h₃ (fun x s₄ h₄=>wpAny_bind (wpAny_mono h₄ (fun _ s₅ h₅=>wpAny_pure (wpAny_pure ⟨rfl,h₅⟩)) fun _ _ h'=>h')) fun _ _ h'=>h'))
noncomputable def tCompW(J:It)(g:TG)(tf:TT)(te:TE)(D:Addr)(σ0:St)(H1:Hp)(Q:Hp→Prop):Prop :=
 ∃ W:Nat→Nat→St→Hp→Prop,(∃ m,W 0 m σ0 (upd H1 D (.lst [])))∧∀ i m σ H,W i m σ H →
  (J.stop i H∧Q H)∨(J.go i H∧∀ x H2,J.yld i H x H2→g x σ H2 fun σ2 H3=>tf σ2 H3 fun b H4 =>
   if b=true then te σ2 H4 fun y H5=>∃ zs,H5 D=some (.lst zs)∧zs.length < sizeLine∧∃ m',m' < m∧W (i + 1) m' σ2 (upd H5 D (.lst (zs ++ [y])))
   else ∃ m',m' < m∧W (i + 1) m' σ2 H4)
noncomputable def tComp(js:List (Option Nat))(wi:TI)(g:Shared→Hp→List Addr→TG)(tf:Shared→Hp→List Addr→TT)(te:Shared→Hp→List Addr→TE):TE:=fun σ H Q=>wi σ H fun J H1=>∀ (D:Addr),H1 D=none→∀ (s0:Shared) (H0:Hp) (fp:List Addr),tCompW J (g s0 H0 fp) (tf s0 H0 fp) (te s0 H0 fp) D (compSt js σ) H1 fun H'=>Q (.ref D) H'
theorem comp_run{tg iter elt:Expr}{ifs:List Expr}{pos:Pos}{J:It}{it:Addr}{tn:Nat→Heap→Prop}{g:Shared→Hp→TG}{tf:Shared→Hp→TT}{te:Shared→Hp→TE}{E:Value→Shared→Prop}{RR:Value→Addr→Result→Shared→Prop}{Q:Addr→Hp→Prop}
  (hc:X.calm=true) (C:CompOk X N' js scope) (I:Inv X pins σ H s) (T:Turn X.prog X.w X.K tg J fp it tn) (st:tn 0 s.heap) (hf:∀ b ∈ fp,FpOk X pins H b)
  (body:∀ (s0:Shared) (H0:Hp),PG (cxComp X N' scope s0 H0 fp) tg (g s0 H0)∧PF (cxComp X N' scope s0 H0 fp) ifs (tf s0 H0)∧PE (cxComp X N' scope s0 H0 fp) elt (te s0 H0))
  (h:∀ D,H D=none→∀ (s0:Shared) (H0:Hp),tCompW J (g s0 H0) (tf s0 H0) (te s0 H0) D (compSt js σ) H (Q D))
  (hRR:∀ (D C:Addr) (H':Hp) (s':Shared) (m:Str→Option Value),s'.heap.Ns C m→s.heap.objs.size ≤ C→(∀ p ∈ X.pn ++ pins,p.1 ≠ C)→H' C=none→C ≠ X.env.locals→(∀ x c,X.env.cells.lookup x=some c→c ≠ C)→(X.s₀.heap.objs.size ≤ C)→Inv X pins σ H' s'→Q D H'→RR (.ref D) C (.ok .next) s') :
  wpAny (model X.prog X.w) X.A (newList []) (fun acc s₃=>wpAny (model X.prog X.w) X.A (newFunctionEnv scope X.env.globals (closL X.env.cells scope.names []) [] X.env.qual none .none (some X.env)) (fun cenv s₄ =>
   codeAny (model X.prog X.w) X.A (.compStart (.ListComp elt [⟨tg,iter,ifs,0⟩] scope pos) 0 (.ref it) acc { cenv with scope:=relabel scope X.env }) (RR acc cenv.locals) s₄) E s₃) E s:=by
 have hfr:H s.heap.objs.size=none:=I.hok.fresh (Nat.le_refl _)
 have I1:Inv X pins σ (upd H s.heap.objs.size (.lst [])) { s with heap:=s.heap.push { cls:=.type "list",dict:=none,data:=.seq ([]:List Value).toArray } } :=
  I.laid (t':=s.toks) (fun b u e=>Heap.get?_push_of_some _ e) (Nat.le_refl _) ⟨Nat.zero_le _,[],_,.nil,Heap.get?_push_size _ rfl⟩
 refine wpAny_newObj_type (comp_env ?_)
 have st1:tn 0 (s.heap.push { cls:=.type "list",dict:=none,data:=.seq ([]:List Value).toArray }):=T.keep _ _ _ st fun b hb o e=>Heap.get?_push_of_some _ e
 have lt:∀ b ∈ fp,b < s.heap.objs.size:=fun b hb=>let ⟨_,e,_⟩:=T.obj _ _ st b hb;Heap.lt_size e
 have hf1:∀ b ∈ fp,FpOk X pins (upd H s.heap.objs.size (.lst [])) b:=fun b hb=>⟨by rw [upd_ne (Nat.ne_of_lt (lt b hb))];exact (hf b hb).1,(hf b hb).2⟩
 have I2:=comp_start (fp:=fp) I1 C hf1 (fun b hb=>let ⟨o,e,_⟩:=T.obj _ _ st1 b hb;⟨o,e⟩)
 have st2:tn 0 (pushCells ((s.heap.push { cls:=.type "list",dict:=none,data:=.seq ([]:List Value).toArray }).push { cls:=.type "dict",data:=.dict #[] }) scope.names):=T.keep _ _ _ st1 fun b hb o e=>pushCells_keeps _ _ b o (Heap.get?_push_of_some _ e)
 obtain ⟨W,⟨m0,w0⟩,turn⟩:=h _ hfr { s with heap:=s.heap.push { cls:=.type "list",dict:=none,data:=.seq ([]:List Value).toArray } } (upd H s.heap.objs.size (.lst []))
 obtain ⟨bg,bf,be⟩:=body { s with heap:=s.heap.push { cls:=.type "list",dict:=none,data:=.seq ([]:List Value).toArray } } (upd H s.heap.objs.size (.lst []))
 generalize hs1:({ s with heap:=s.heap.push { cls:=.type "list",dict:=none,data:=.seq ([]:List Value).toArray } }:Shared)=s1 at I1 I2 st2 bg bf be turn ⊢
 have es1:s1.heap=s.heap.push { cls:=.type "list",dict:=none,data:=.seq ([]:List Value).toArray }:=by rw [← hs1]
 have sz1:s1.heap.objs.size=s.heap.objs.size + 1:=by rw [es1,Heap.size_push]
 rw [← es1] at st2
 have stat:∀ {H':Hp},(∀ b ∈ fp,H' b=none)→∀ b ∈ fp,FpOk (cxComp X N' scope s1 (upd H s.heap.objs.size (.lst [])) fp) [] H' b:=fun hn b hb=>by
  refine ⟨hn b hb,(I2.ok.exf b hb).1,?_,.inl hb,(I2.ok.exf b hb).2,fun p hp=>absurd (show p ∈ ([]:List (Addr×Obj)) from hp) (by simp)⟩
  exact I2.ok.exfs b hb
 have outE:∀ {α:Type} {t:Sem α} {QQ:α→Shared→Prop} {E':Value→Shared→Prop} {s':Shared},wpAny (model X.prog X.w) X.A t QQ (fun _ _=>False) s'→wpAny (model X.prog X.w) X.A t QQ E' s':=fun q=>wpAny_mono q (fun _ _ z=>z) fun _ _ z=>z.elim
 have loop:∀ s2:Shared,s2={ s1 with heap:=pushCells (s1.heap.push { cls:=.type "dict",data:=.dict #[] }) scope.names } →
   codeAny (model X.prog X.w) X.A (.compLoop (.ListComp elt [⟨tg,iter,ifs,0⟩] scope pos) 0 (.ref it) (.ref s.heap.objs.size) (cxComp X N' scope s1 (upd H s.heap.objs.size (.lst [])) fp).env) (RR (.ref s.heap.objs.size) s1.heap.objs.size) s2:=by
  rintro s2 rfl
  refine compLoop_any (fun n s'=>∃ i σ' H',Inv (cxComp X N' scope s1 (upd H s.heap.objs.size (.lst [])) fp) [] σ' H' s'∧tn i s'.heap∧(∀ b ∈ fp,H' b=none)∧W i n σ' H') ?_ m0 ⟨0,_,_,I2,st2,fun b hb=>(hf1 b hb).1,w0⟩
  rintro n s3 ⟨i,σ3,H3,I3,st3,fr3,w3⟩
  rcases turn i n σ3 H3 w3 with ⟨stop,q⟩ | ⟨go,step⟩
  ·refine outE (thn (T.done (cxComp X N' scope s1 (upd H s.heap.objs.size (.lst [])) fp) rfl rfl rfl hc i [] s3 σ3 H3 (fun _ _=>False) I3 (stat fr3) st3 stop) fun r s4 zz0=>?_)
   obtain ⟨hr,I4⟩:=zz0
   subst hr
   have u4:Un (frs X.stack) fp (upd H s.heap.objs.size (.lst [])) H3 s1.heap s4.heap:=I4.base
   have IX:Inv X pins σ H3 s4:=I1.call' I4.os u4 I4.hok I4.bare fun b hb=>by
    obtain ⟨_,f1,_,f3,f4,f5⟩:=hf1 b hb
    exact ⟨f3,f1,f4,f5⟩
   obtain ⟨m,hn,_⟩:=I4.loc
   have cle:s.heap.objs.size ≤ s1.heap.objs.size:=by rw [sz1];exact Nat.le_succ _
   have clt:∀ b,b < s1.heap.objs.size→b ≠ s1.heap.objs.size:=fun b hb=>Nat.ne_of_lt hb
   refine hRR _ s1.heap.objs.size H3 s4 m hn cle (fun p hp=>clt _ (Heap.lt_size (I1.pin p hp).1)) I4.free (Ne.symm (clt _ I1.lt)) (fun x c e=>?_) (Nat.le_trans I.sz cle) IX q
   obtain ⟨v,z⟩:=I1.cell x c e
   exact clt _ z.lt
  ·refine outE (thn (T.item (cxComp X N' scope s1 (upd H s.heap.objs.size (.lst [])) fp) rfl rfl rfl hc i [] s3 σ3 H3 (fun _ _=>False) I3 (stat fr3) st3 go) fun r s4 zz0=>?_)
   obtain ⟨u,hr,h4⟩:=zz0
   subst hr
   refine outE (thn h4 fun _ s5 zz0=>?_)
   obtain ⟨x,H5,I5,r5,y5,st5,fr5⟩:=zz0
   have I5':=I5.pinned (stat fr5) (T.obj _ _ st5)
   refine outE (thn (bg _ s5 σ3 H5 x u _ I5' r5 (step x H5 y5)) fun _ s6 zz0=>?_)
   obtain ⟨σ6,H6,I6,q6⟩:=zz0
   refine outE (thn (bf _ s6 σ6 H6 _ I6 q6) fun ok s7 zz0=>?_)
   obtain ⟨H7,I7,q7⟩:=zz0
   have again:∀ {s8:Shared} {σ8:St} {H8:Hp} {m':Nat},Inv (cxComp X N' scope s1 (upd H s.heap.objs.size (.lst [])) fp) ([] ++ pinsAt fp s5.heap) σ8 H8 s8→m' < n→W (i + 1) m' σ8 H8 →
     ∃ m,m < n∧∃ i σ' H',Inv (cxComp X N' scope s1 (upd H s.heap.objs.size (.lst [])) fp) [] σ' H' s8∧tn i s8.heap∧(∀ b ∈ fp,H' b=none)∧W i m σ' H':=fun {s8 σ8 H8 m'} I8 hm w8=>by
    refine ⟨m',hm,i + 1,σ8,H8,I8.unpinned,T.keep _ _ _ st5 fun b hb o e=>(I8.pin (b,o) (List.mem_append_right _ (List.mem_append_right _ (mem_pinsAt hb e)))).1,fun b hb=>?_,w8⟩
    obtain ⟨o,e,d⟩:=T.obj _ _ st5 b hb
    exact (I8.pin (b,o) (List.mem_append_right _ (List.mem_append_right _ (mem_pinsAt hb e)))).2.1
   cases ok with
   |false =>
    rw [if_neg Bool.false_ne_true] at q7 ⊢
    obtain ⟨m',hm,w8⟩:=q7
    exact again I7 hm w8
   |true =>
    rw [if_pos rfl] at q7 ⊢
    refine outE (thn (be _ s7 σ6 H7 _ I7 q7) fun y s8 zz0=>?_)
    obtain ⟨v,H8,I8,r8,zs,hz,hlen,m',hm,w8⟩:=zz0
    obtain ⟨hzl,its,k,rv,e8⟩:=I8.hok _ _ hz
    refine outE (PyProof.Rows.append_at (hsz:=by rw [List.size_toArray,← rv.length];exact hzl) e8 fun h9 sb e9=>?_)
    rw [List.push_toArray] at e9
    have I9:Inv (cxComp X N' scope s1 (upd H s.heap.objs.size (.lst [])) fp) ([] ++ pinsAt fp s5.heap) σ6 (upd H8 s.heap.objs.size (.lst (zs ++ [v]))) { s8 with heap:=h9 } :=
     I8.write (t':=s8.toks) (by rw [hz];trivial) (.inl rfl) (fun b o hb e=>(sb.2 b hb).trans e) ⟨_,e9⟩ ⟨by rw [List.length_append,List.length_singleton];exact hlen,its ++ [y],k + 1,rv.append (.cons r8 .nil),e9⟩
    exact again I9 hm w8
 show codeAny (model X.prog X.w) X.A (.compStart (.ListComp elt [⟨tg,iter,ifs,0⟩] scope pos) 0 (.ref it) (.ref s.heap.objs.size) (cxComp X N' scope s1 (upd H s.heap.objs.size (.lst [])) fp).env) (RR (.ref s.heap.objs.size) s1.heap.objs.size) { s1 with heap:=pushCells (s1.heap.push { cls:=.type "dict",data:=.dict #[] }) scope.names }
 exact codeAny_compStart_list (loop _ rfl) (T.self X.A 0 _ _ _ st2 (loop _ rfl))
theorem lookup_of_nodup{α:Type}{n:Str}{c:α}:∀ {l:List (Str×α)},(l.map (·.1)).Nodup→(n,c) ∈ l→l.lookup n=some c
 |[],_,h=>nomatch h
 |(m,e) :: r,hn,hm=>by
  have hn:(m :: r.map (·.1)).Nodup:=hn
  obtain ⟨h1,h2⟩:=List.nodup_cons.mp hn
  rw [List.lookup_cons]
  rcases List.mem_cons.mp hm with q | q
  ·cases q;simp
  ·have hne:(n == m)=false:=by
    cases hb:n == m with
    |false=>rfl
    |true=>exact absurd (List.mem_map.mpr ⟨(n,c),q,beq_iff_eq.mp hb⟩) h1
   rw [hne]
   exact lookup_of_nodup h2 q
variable {tg iter elt:Expr} {ifs:List Expr} {pos:Pos} {wi:TI} {g:Shared→Hp→List Addr→TG} {tf:Shared→Hp→List Addr→TT} {te:Shared→Hp→List Addr→TE}
theorem pe_comp(hc:X.calm=true)(C:CompOk X N' js scope)(hi:PI X tg iter wi)
  (body:∀ (s0:Shared) (H0:Hp) (fp:List Addr),PG (cxComp X N' scope s0 H0 fp) tg (g s0 H0 fp)∧PF (cxComp X N' scope s0 H0 fp) ifs (tf s0 H0 fp)∧PE (cxComp X N' scope s0 H0 fp) elt (te s0 H0 fp))
  (hs:∀ x,foldedSetIterable iter X.env x=pure x:=by intro _;rfl):PE X (.ListComp elt [⟨tg,iter,ifs,0⟩] scope pos) (tComp js wi g tf te):=by
 intro pins s σ H Q I h
 rw [eval_ListComp]
 have hcl:closureFor scope X.env=pure (closL X.env.cells scope.names []):=closureFor_eq fun n hn=>Option.isSome_iff_exists.mpr (I.ok.has n (C.fr n hn))
 refine wpAny_comprehension_free (use:=none) rfl hs hcl C.kind (fun x hx hl=>lookup_of_nodup C.nd (by rw [← hl];exact hx)) (thn (hi pins s σ H _ I h) fun v s1 h1=>thn h1 fun itv s2 h2=>?_)
 obtain ⟨it,fp,tn,J,H2,e,I2,T,st2,f2,q⟩:=h2
 subst e
 refine comp_run (RR:=fun acc C=>compPost (model X.prog X.w) X.A X.xe none (EP X pins σ Q) acc C) hc C I2 T st2 f2 (g:=fun s0 H0=>g s0 H0 fp) (tf:=fun s0 H0=>tf s0 H0 fp) (te:=fun s0 H0=>te s0 H0 fp) (fun s0 H0=>body s0 H0 fp) (Q:=fun D H'=>Q (.ref D) H') (fun D hD s0 H0=>q D hD s0 H0 fp) ?_
 intro D Ca H' s' m hn hle hp hC hL hcel hs0 I' q'
 exact ⟨m,hn,fun h' hs'=>⟨.ref D,H',I'.turned (t':=s'.toks) (it:=Ca) (fun b o hb e=>(hs'.2 b hb).trans e) hC hL (.inr hs0) hcel hp,rfl,q'⟩⟩
theorem ps_setc{i:Nat}{x:Str}{px cpos:Pos}(hc:X.calm=true)(C:CompOk X N' js scope)(hi:PI X tg iter wi)
  (body:∀ (s0:Shared) (H0:Hp) (fp:List Addr),PG (cxComp X N' scope s0 H0 fp) tg (g s0 H0 fp)∧PF (cxComp X N' scope s0 H0 fp) ifs (tf s0 H0 fp)∧PE (cxComp X N' scope s0 H0 fp) elt (te s0 H0 fp))
  (hN:X.N.Nodup) (hix:X.N[i]?=some x) (hx:Loc X.env.scope x)
  (hsw:swapsWith (.ListComp elt [⟨tg,iter,ifs,0⟩] scope cpos) (some (.Name x px)) pos.line X.env=pure true:=by rfl) (hf:X.fn x=true∨X.env.scope.names.lookup x=some .local:=by trivial)
  (hs:∀ x,foldedSetIterable iter X.env x=pure x:=by intro _;rfl):PS X (.Assign [.Name x px] (.ListComp elt [⟨tg,iter,ifs,0⟩] scope cpos) pos) (tAsg (tComp js wi g tf te) (gName i)):=by
 intro pins s σ H D0 I h
 rw [exec_Assign_Name_used _ _ _ _ hsw]
 refine wpAny_bind (wpAny_standAt (wpAny_bind ?_))
 show wpAny _ X.A (do let _ ← comprehension (.ListComp elt [⟨tg,iter,ifs,0⟩] scope cpos) scope X.env _ (newList []) false (eval iter X.env) (some (assign (.Name x px) X.env))) _ _ s
 have hcl:closureFor scope X.env=pure (closL X.env.cells scope.names []):=closureFor_eq fun n hn=>Option.isSome_iff_exists.mpr (I.ok.has n (C.fr n hn))
 refine wpAny_bind (wpAny_mono (wpAny_comprehension_free (use:=some (assign (.Name x px) X.env)) (Q:=fun _ s'=>SP X pins D0 .next s') rfl hs hcl C.kind (fun x hx hl=>lookup_of_nodup C.nd (by rw [← hl];exact hx)) (thn (hi pins s σ H _ I h) fun v s1 h1=>thn h1 fun itv s2 h2=>?_))
  (fun _ s' hq=>wpAny_pure (wpAny_pure hq)) fun _ _ e=>e)
 obtain ⟨it,fp,tn,J,H2,e,I2,T,st2,f2,q⟩:=h2
 subst e
 refine comp_run (RR:=fun acc C=>compPost (model X.prog X.w) X.A X.xe (some (assign (.Name x px) X.env)) (fun _ s'=>SP X pins D0 .next s') acc C) hc C I2 T st2 f2 (g:=fun s0 H0=>g s0 H0 fp) (tf:=fun s0 H0=>tf s0 H0 fp) (te:=fun s0 H0=>te s0 H0 fp) (fun s0 H0=>body s0 H0 fp) (Q:=fun D H'=>D0.nx (σ.set i (some (.ref D))) H') (fun D hD s0 H0=>q D hD s0 H0 fp) ?_
 intro D Ca H' s' m hn hle hp hC hL hcel hs0 I' q'
 show wpAny _ X.A (assign (.Name x px) X.env (.ref D)) _ _ _
 refine wpAny_assign_Name (store_ok2 I' hN hix hx (v:=.ref D) rfl (fun s'' I'' hsb=>?_) hf)
 obtain ⟨a,sb,ha⟩:=hsb
 have nCa:Ca ≠ a:=by
  rcases ha with z | z
  ·rw [z];exact hL
  ·exact fun w=>hcel x a z w.symm
 exact ⟨m,hn.sameBut sb nCa,fun h' hs'=>⟨σ.set i (some (.ref D)),H',I''.turned (t':=s''.toks) (it:=Ca) (fun b o hb e=>(hs'.2 b hb).trans e) hC hL (.inr hs0) hcel hp,q'⟩⟩
end
end L2
namespace L2
open PySem PySem.Spec PyProof.Rows
section
variable {prog:Program} {w:World} {A:Around} {E:Value→Shared→Prop} {s:Shared}
theorem nextOf_tuple_item{it l:Addr}{i:Nat}{items:Array Value}{x:Value}{Q:Value→Shared→Prop}(hit:s.heap.IsTupleIter it l i)
  (hl:s.heap.IsTuple l items) (hx:items[i]?=some x)
  (hQ:∀ h',h'.IsTupleIter it l (i + 1)→Heap.SameBut it s.heap h'→Q x { s with heap:=h' }) :
  wpAny (model prog w) A (Builtin.SmallTypes.nextOf (.ref it)) Q E s:=by
 obtain ⟨o,ho,hc,hd⟩:=id hit
 obtain ⟨ol,hol,_,nl,hdl⟩:=hl
 unfold Builtin.SmallTypes.nextOf
 refine wpAny_bind (wpAny_callSpecial?_slot (name:=Str.ofString "__next__") hit.typeIs F.slot_tuple_iterator_next
  (wpAny_call_entry F.slot_tuple_iterator_next hit.typeIs F.entry_tuple_iterator_next ?_ (F.args_tuple_iterator_next_1 _)))
 show wpAny _ _ (field (.ref it) 0 >>= _) _ _ s
 refine wpAny_bind (wpAny_field ho hd (x:=.ref l) rfl ?_)
 show wpAny _ _ (if (Value.ref l == Value.none)=true then _ else _) _ _ s
 rw [if_neg (show ¬ ((Value.ref l == Value.none)=true) from Bool.false_ne_true)]
 show wpAny _ _ (field (.ref it) 1 >>= _) _ _ s
 refine wpAny_bind (wpAny_field ho hd (x:=.int i 0) rfl ?_)
 show wpAny _ _ (seqItems? (.ref l) >>= _) _ _ s
 refine wpAny_bind (wpAny_seqItems hol hdl ?_)
 simp only [Int.toNat_natCast,hx]
 refine wpAny_bind (wpAny_setField ho hd (by simp) (wpAny_pure ⟨x,rfl,wpAny_pure (hQ _ ?_ (Heap.SameBut.update ..))⟩))
 exact ⟨_,Heap.get?_update_self _ ho (Obj.isFreed_of_fields (Obj.data_mapFields hd _)),(Obj.cls_mapFields ..).trans hc,by
  rw [Obj.data_mapFields hd];simp [rawInt]⟩
theorem nextOf_tuple_end{it l:Addr}{i:Nat}{items:Array Value}{Q:Value→Shared→Prop}(hh:A.handled=none)
  (hit:s.heap.IsTupleIter it l i) (hl:s.heap.IsTuple l items) (hx:items[i]?=none)
  (hE:∀ h' e,Heap.ExtBut it s.heap h'→(∃ o,h'.get? e=some o∧o.cls = .type "StopIteration")→E (.ref e) { s with heap:=h' }) :
  wpAny (model prog w) A (Builtin.SmallTypes.nextOf (.ref it)) Q E s:=by
 obtain ⟨o,ho,hc,hd⟩:=id hit
 obtain ⟨ol,hol,_,nl,hdl⟩:=hl
 unfold Builtin.SmallTypes.nextOf
 refine wpAny_bind (wpAny_callSpecial?_slot (name:=Str.ofString "__next__") hit.typeIs F.slot_tuple_iterator_next
  (wpAny_call_entry F.slot_tuple_iterator_next hit.typeIs F.entry_tuple_iterator_next ?_ (F.args_tuple_iterator_next_1 _)))
 show wpAny _ _ (field (.ref it) 0 >>= _) _ _ s
 refine wpAny_bind (wpAny_field ho hd (x:=.ref l) rfl ?_)
 show wpAny _ _ (if (Value.ref l == Value.none)=true then _ else _) _ _ s
 rw [if_neg (show ¬ ((Value.ref l == Value.none)=true) from Bool.false_ne_true)]
 show wpAny _ _ (field (.ref it) 1 >>= _) _ _ s
 refine wpAny_bind (wpAny_field ho hd (x:=.int i 0) rfl ?_)
 show wpAny _ _ (seqItems? (.ref l) >>= _) _ _ s
 refine wpAny_bind (wpAny_seqItems hol hdl ?_)
 simp only [Int.toNat_natCast,hx]
 refine wpAny_bind (wpAny_rule (wpAny_bind (wpAny_setField ho hd (by simp) ?_)))
 show wpAny _ _ (newExc (.type "StopIteration") [] >>= _) _ _ _
 refine wpAny_bind ?_
 simp only [newExc,newTuple]
 refine wpAny_bind (wpAny_newObj_type ?_ (by size_fits))
 refine wpAny_bind (m:=firstArgMember _ _) (wpAny_of_eq (a:=Value.none) (by first | rfl | (simp only [firstArgMember];rfl)) ?_)
 refine wpAny_newObj_type ?_ (by size_fits)
 simp only [raiseNew]
 refine wpAny_bind (wpAny_handled ?_)
 first | rw [show A.in1.handled=none from hh] | rw [hh]
 refine wpAny_bind (wpAny_pure (wpAny_throw ?_))
 exact hE _ _ (((Heap.SameBut.update ..).extBut.push _).push _) ⟨_,Heap.get?_push_size _ rfl,rfl⟩
end
theorem draws_tuple{prog:Program}{w:World}{A:Around}(hh:A.handled=none)(it l:Addr)(hne:l ≠ it)(items:Array Value) :
  Draws prog w A it [it,l] items.size (fun i v=>items[i]?=some v) (fun i h=>h.IsTupleIter it l i∧h.IsTuple l items) where
 live:=fun _ _ st=>let ⟨o,ho,_⟩:=st.1;⟨o,ho⟩
 frame:=fun _ _ _ st hk=>⟨st.1.at fun o e=>hk it (by simp) o e,let ⟨o,ho,r⟩:=st.2;⟨o,hk l (by simp) o ho,r⟩⟩
 item:=fun i s Q E hi st hQ=>by
  refine nextOf_tuple_item st.1 st.2 (x:=items[i]) (by simp [hi]) fun h' hit hs=>?_
  exact hQ _ h' s.toks (by simp [hi]) ⟨hit,st.2.extBut hs.extBut hne⟩ hs
 done:=fun s Q E st hE=>nextOf_tuple_end hh st.1 st.2 (by simp) hE
theorem meets_enumerate_newT(l:Addr)(items:Array Value)(n:Nat)(dct:Option Addr)(sl:Array (Option Value)) :
  Meets (Builtin.«enumerate.__new__» ⟨[.type "enumerate",.ref l],[]⟩) (fun _ R s=>s.heap.get? l=some { cls:=.type "tuple",dict:=dct,data:=.seq items n,slots:=sl } ∧
   R (.ok (.ret (.ref (s.heap.push { cls:=.type "tuple_iterator",data:=.fields #[.ref l,.int 0 0] }).objs.size)))
    { s with heap:=(s.heap.push { cls:=.type "tuple_iterator",data:=.fields #[.ref l,.int 0 0] }).push { cls:=.type "enumerate",data:=.fields #[.none,.bool false,.ref s.heap.objs.size,rawInt 0,.none,.none] } }) :=
 .of_wp fun prog w A R s h=>by
  obtain ⟨hp,g,d,tk,os⟩:=s;obtain ⟨hl,h⟩:=h
  have hsub:=sub_enumerate
  have hL:Heap.IsTuple (Shared.heap ⟨hp,g,d,tk,os⟩) l items:=⟨_,hl,rfl,n,rfl⟩
  wp_walk using PySem.AutoSeq1.wpAny_loadPart' hl
  refine wpAny_stack_any fun st=>wpAny_pure ?_
  split
  ·rename_i c _ _ _ _ _
   cases (c == Value.type "enumerate")
   ·wp_walk using PySem.AutoSeq1.wpAny_loadPart' hl,wpAny_pyIter_tuple hL
    exact ⟨_,rfl,h⟩
   ·wp_walk using PySem.AutoSeq1.wpAny_loadPart' hl,wpAny_pyIter_tuple hL
    exact ⟨_,rfl,h⟩
  ·wp_walk using PySem.AutoSeq1.wpAny_loadPart' hl,wpAny_pyIter_tuple hL
   exact ⟨_,rfl,h⟩
theorem call_enumerate_tuple{prog:Program}{w:World}{A:Around}{E:Value→Shared→Prop}{s:Shared}{l:Addr}{items:Array Value}{Q:Value→Shared→Prop}(hL:s.heap.IsTuple l items)
  (h:∀ h',IsEnum h' (s.heap.objs.size + 1) s.heap.objs.size 0 .none→h'.IsTupleIter s.heap.objs.size l 0→h'.objs.size=s.heap.objs.size + 2 →
   (∀ b o,s.heap.get? b=some o→h'.get? b=some o)→Q (.ref (s.heap.objs.size + 1)) { s with heap:=h' }) :
  wpAny (model prog w) A (call (.type "enumerate") [.ref l]) Q E s:=by
 obtain ⟨⟨c,dct,dt,sl⟩,hl,hc,n,hd⟩:=hL
 replace hc:c = .type "tuple":=hc
 replace hd:dt = .seq items n:=hd
 subst hc hd
 refine callType_new F.called_enumerate (by decide) (F.typeCall_enumerate_1 _) (F.newCall_enumerate_1 _) (fun obj=>F.args_object_init_2 obj _) F.entry_enumerate_new
  (meets_enumerate_newT l items n dct sl) ⟨hl,?_⟩
 have hz:(s.heap.push { cls:=.type "tuple_iterator",data:=.fields #[.ref l,.int 0 0] }).objs.size=s.heap.objs.size + 1:=Heap.size_push ..
 show _∧_
 rw [hz]
 have he:IsEnum ((s.heap.push { cls:=.type "tuple_iterator",data:=.fields #[.ref l,.int 0 0] }).push
   { cls:=.type "enumerate",data:=.fields #[.none,.bool false,.ref s.heap.objs.size,rawInt 0,.none,.none] }) (s.heap.objs.size + 1) s.heap.objs.size 0 .none:=by
  have:=Heap.get?_push_size (s.heap.push { cls:=.type "tuple_iterator",data:=.fields #[.ref l,.int 0 0] })
   (o:={ cls:=.type "enumerate",data:=.fields #[.none,.bool false,.ref s.heap.objs.size,rawInt 0,.none,.none] }) rfl
  rw [hz] at this;exact this
 refine ⟨⟨_,he,rfl⟩,h _ he ⟨_,Heap.get?_push_of_some _ (Heap.get?_push_size _ rfl),rfl,rfl⟩ (by rw [Heap.size_push,hz]) fun b o x=>Heap.get?_push_of_some _ (Heap.get?_push_of_some _ x)⟩
section
variable {X:Cx} {pins:List (Addr×Obj)} {σ:St} {H:Hp} {s:Shared} {h':Heap}
theorem Inv.turned2{t':Nat}{e it:Addr}(I:Inv X pins σ H s)(k:∀ b o,b ≠ e→b ≠ it→s.heap.get? b=some o→h'.get? b=some o)(fe:FpOk X pins H e)(fi:FpOk X pins H it):Inv X pins σ H { s with heap:=h',toks:=t' }:=by
 have ne1:∀ b,b ∉ [e,it]→b ≠ e∧b ≠ it:=fun b hb=>⟨fun z=>hb (by simp [z]),fun z=>hb (by simp [z])⟩
 have nit:∀ b u,H b=some u→b ≠ e∧b ≠ it:=fun b u q=>⟨fun z=>(by rw [z,fe.1] at q;cases q),fun z=>(by rw [z,fi.1] at q;cases q)⟩
 refine I.step (g':=s.gens) (d':=s.drawn) (ch:=[e,it]) (fun b hb=>?_) (fun b o _ _ hc q _=>k b o (ne1 b hc).1 (ne1 b hc).2 q) (fun b o _ _ hc q _=>⟨o.slots,k b o (ne1 b hc).1 (ne1 b hc).2 q⟩) (fun _ _ _ _ n=>n)
  (fun b o hc q=>⟨o,k b o (ne1 b hc).1 (ne1 b hc).2 q⟩) (fun _ _ q=>q) (fun _ _ _ q=>q) (fun b ps q=>⟨#[],by rw [q];simp⟩) (fun m hm=>?_) (fun b u q=>?_) I.bare
 ·rcases List.mem_cons.mp hb with z | z
  ·subst z;exact ⟨fe.2.2.2.1,fe.2.1,fe.2.2.2.2.1,fe.2.2.2.2.2⟩
  ·have z:=List.mem_singleton.mp z
   subst z;exact ⟨fi.2.2.2.1,fi.2.1,fi.2.2.2.2.1,fi.2.2.2.2.2⟩
 ·obtain ⟨o,es,ep,ho,r⟩:=hm
  exact ⟨o,es,ep,k _ o (Ne.symm fe.2.1) (Ne.symm fi.2.1) ho,r⟩
 ·refine (I.hok b u q).stay (fun c v hc z=>?_) (fun _ z=>z) fun _ _ z=>z
  rcases hc with y | y
  ·rw [y];rw [y] at z;exact k b v (nit b u q).1 (nit b u q).2 z
  ·exact k c v (nit c _ y).1 (nit c _ y).2 z
end
structure EnumSrc(P:Program)(w:World)(K:PySem.W.Frag)(a it:Addr)(Sq:Hp→List V→Prop)(IsIt:Nat→Heap→Prop):Prop where
 at_:∀ i h h',IsIt i h→(∀ o,h.get? it=some o→h'.get? it=some o)→IsIt i h'
 live:∀ i h,IsIt i h→∃ o,h.get? it=some o∧∀ v,o.data ≠ .cell v
 drw:∀ (X:Cx),X.prog=P→X.w=w→X.K=K→X.calm=true→∀ (i:Nat) (pins:List (Addr×Obj)) (s:Shared) (σ:St) (H:Hp) (xs:List V),Inv X pins σ H s→IsIt i s.heap→Sq H xs →
  ∃ its:List Value,Vals xs its∧(∃ oa,s.heap.get? a=some oa∧oa.cls ≠ .type "enumerate")∧∃ St:Nat→Heap→Prop,Draws P w X.A.in1 it [it,a] its.length (fun i v=>its[i]?=some v) St∧St i s.heap∧∀ j h',St j h'→IsIt j h'
 inj:∀ (X:Cx),X.prog=P→X.w=w→X.K=K→∀ (pins:List (Addr×Obj)) (s:Shared) (σ:St) (H:Hp) (xs ys:List V),Inv X pins σ H s→Sq H xs→Sq H ys→xs=ys
noncomputable def Ite(Sq:Hp→List V→Prop):It :=
 ⟨fun i H=>∃ xs x,Sq H xs∧xs[i]?=some x,fun i H x H'=>∃ T v,x = .ref T∧H T=none∧H'=upd H T (.tup [.int (i:Nat),v])∧∀ xs,Sq H xs→xs[i]?=some v,fun i H=>∃ xs,Sq H xs∧xs.length=i⟩
theorem in1_handled{A:Around}(h:A.handled=none):A.in1.handled=none:=h
theorem src_list{P:Program}{w:World}{K:PySem.W.Frag}(a it:Addr):EnumSrc P w K a it (fun H xs=>SqL K H a xs) (fun i h=>h.IsListIter it a i) where
 at_:=fun i h h' st k=>st.at k
 live:=fun i h st=>by
  obtain ⟨o,e,c,d⟩:=st
  exact ⟨o,e,fun v z=>by rw [d] at z;cases z⟩
 drw:=by
  intro X hP hw hK hc i pins s σ H xs I hit hq
  subst hP hw hK
  obtain ⟨its,rv,p,hz⟩:=I.list hq
  obtain ⟨oa,e1,c1,r1⟩:=id p.isList
  have hne:a ≠ it:=fun z=>by
   obtain ⟨o,e,c,_⟩:=hit
   rw [← z,e1] at e;cases e;rw [c1] at c;injection c with c;exact absurd c (by decide)
  refine ⟨its,rv,⟨oa,e1,fun z=>(by rw [c1] at z;injection z with z;exact absurd z (by decide))⟩,(fun i h=>h.IsListIter it a i∧h.IsList a its.toArray),?_,⟨hit,p.isList⟩,fun j h' st=>st.1⟩
  have D:=Draws.list (prog:=X.prog) (w:=X.w) (A:=X.A.in1) (in1_handled (I.ok.hd hc)) it a hne its.toArray
  simpa using D
 inj:=by
  intro X hP hw hK pins s σ H xs ys I h1 h2
  subst hP hw hK
  exact I.list_inj h1 h2
theorem src_tup{P:Program}{w:World}{K:PySem.W.Frag}(a it:Addr):EnumSrc P w K a it (fun H xs=>SqT K H a xs) (fun i h=>h.IsTupleIter it a i) where
 at_:=fun i h h' st k=>st.at k
 live:=fun i h st=>by
  obtain ⟨o,e,c,d⟩:=st
  exact ⟨o,e,fun v z=>by rw [d] at z;cases z⟩
 drw:=by
  intro X hP hw hK hc i pins s σ H xs I hit hq
  subst hP hw hK
  obtain ⟨its,rv,p,hz⟩:=I.tuple hq
  obtain ⟨oa,e1,c1,r1⟩:=id p
  have hne:a ≠ it:=fun z=>by
   obtain ⟨o,e,c,_⟩:=hit
   rw [← z,e1] at e;cases e;rw [c1] at c;injection c with c;exact absurd c (by decide)
  refine ⟨its,rv,⟨oa,e1,fun z=>(by rw [c1] at z;injection z with z;exact absurd z (by decide))⟩,(fun i h=>h.IsTupleIter it a i∧h.IsTuple a its.toArray),?_,⟨hit,p⟩,fun j h' st=>st.1⟩
  have D:=draws_tuple (prog:=X.prog) (w:=X.w) (A:=X.A.in1) (in1_handled (I.ok.hd hc)) it a hne its.toArray
  simpa using D
 inj:=by
  intro X hP hw hK pins s σ H xs ys I h1 h2
  subst hP hw hK
  exact I.tuple_inj h1 h2
theorem turn_enum{P:Program}{w:World}{K:PySem.W.Frag}{a it:Addr}{Sq:Hp→List V→Prop}{IsIt:Nat→Heap→Prop}(S:EnumSrc P w K a it Sq IsIt)(e:Addr)(hei:e ≠ it){es:List Expr}{x1}{pos:Pos} :
  Turn P w K (.Tuple es x1 pos) (Ite Sq) [e,it] e (fun i h=>(∃ old,IsEnum h e it ((i:Nat):Int) old)∧IsIt i h) where
 mem:=by simp
 obj:=fun i h st b hb=>by
  obtain ⟨⟨old,he⟩,hit⟩:=st
  rcases List.mem_cons.mp hb with z | z
  ·subst z;exact ⟨_,he,fun v z=>by cases z⟩
  ·have z:=List.mem_singleton.mp z
   subst z;exact S.live i h hit
 keep:=fun i h h' st k=>by
  obtain ⟨⟨old,he⟩,hit⟩:=st
  exact ⟨⟨old,k e (by simp) _ he⟩,S.at_ i h h' hit fun o q=>k it (by simp) o q⟩
 item:=by
  intro X hP hw hK hc i pins s σ H E I hf st hg
  obtain ⟨⟨old,he⟩,hit⟩:=st
  obtain ⟨xs,x,hq,hx⟩:=hg
  obtain ⟨its,rv,⟨oa,ea,ca⟩,St,D,st0,fromSt⟩:=S.drw X hP hw hK hc i pins s σ H xs I hit hq
  obtain ⟨u,hu,ru⟩:=rv.get hx
  have hlt:i < its.length:=(List.getElem?_eq_some_iff.mp hu).1
  have hef:e ∉ [it,a]:=fun z=>by
   rcases List.mem_cons.mp z with z | z
   ·exact hei z
   ·have z:=List.mem_singleton.mp z
    have he':s.heap.get? e=some _:=he
    rw [z,ea] at he';cases he';exact ca rfl
  refine wpAny_pyNext_enum_itemD D he st0 hlt hei hef fun y h1 tk hy heo hst1 htup hsz hk=>?_
  have ey:y=u:=Option.some.inj (hy.symm.trans hu)
  subst ey
  refine ⟨_,rfl,wpAny_letOwnedTupleGo_enum heo fun h2 he2 sb2=>?_⟩
  have fe:=hf e (by simp)
  have fi:=hf it (by simp)
  have hT:H s.heap.objs.size=none:=I.hok.fresh (Nat.le_refl _)
  have Im:Inv X pins σ (upd H s.heap.objs.size (.tup [.int (i:Nat),x])) { s with heap:=s.heap.push { cls:=.type "tuple",data:=.seq #[.int i tk,y] } } :=
   I.laid (t':=s.toks) (fun b v q=>Heap.get?_push_of_some _ q) (Nat.le_refl _) ⟨by show 2 ≤ sizeLine;decide,[.int i tk,y],.cons ⟨tk,rfl⟩ (.cons ru .nil),⟨_,Heap.get?_push_size _ rfl,rfl,_,rfl⟩⟩
  have lt:∀ b o,s.heap.get? b=some o→b ≠ s.heap.objs.size:=fun b o q=>Nat.ne_of_lt (Heap.lt_size q)
  have ne:e ≠ s.heap.objs.size:=lt e _ he
  have ni:it ≠ s.heap.objs.size:=by
   obtain ⟨o,q,_⟩:=S.live i _ hit
   exact lt it o q
  have up:∀ b,b ≠ s.heap.objs.size→(upd H s.heap.objs.size (.tup [.int (i:Nat),x])) b=H b:=fun b hb=>upd_ne hb
  have fe':FpOk X pins (upd H s.heap.objs.size (.tup [.int (i:Nat),x])) e:=⟨by rw [up e ne];exact fe.1,fe.2⟩
  have fi':FpOk X pins (upd H s.heap.objs.size (.tup [.int (i:Nat),x])) it:=⟨by rw [up it ni];exact fi.1,fi.2⟩
  have I2:Inv X pins σ (upd H s.heap.objs.size (.tup [.int (i:Nat),x])) { s with heap:=h2,toks:=tk + 1 } :=
   Im.turned2 (t':=tk + 1) (h':=h2) (fun b o hbe hbi q=>by
    have q:(s.heap.push { cls:=.type "tuple",data:=.seq #[.int i tk,y] }).get? b=some o:=q
    refine (sb2.2 b hbe).trans ?_
    rcases Heap.get?_push_cases q with ⟨hb,ho⟩ | q'
    ·subst hb;subst ho;exact htup
    ·exact hk b o hbe hbi q') fe' fi'
  refine ⟨.ref s.heap.objs.size,_,I2,rfl,⟨_,x,rfl,hT,rfl,fun ys hy=>by rw [S.inj X hP hw hK pins s σ H ys xs I hy hq];exact hx⟩,⟨⟨y,?_⟩,?_⟩,fun b hb=>?_⟩
  ·have ec:((i + 1:Nat):Int)=(i:Int) + 1:=by push_cast;rfl
   rw [ec];exact he2
  ·exact S.at_ _ _ _ (fromSt _ _ hst1) fun o q=>(sb2.2 it (Ne.symm hei)).trans q
  ·rcases List.mem_cons.mp hb with z | z
   ·subst z;exact fe'.1
   ·have z:=List.mem_singleton.mp z
    subst z;exact fi'.1
 done:=by
  intro X hP hw hK hc i pins s σ H E I hf st hg
  obtain ⟨⟨old,he⟩,hit⟩:=st
  obtain ⟨xs,hq,hx⟩:=hg
  obtain ⟨its,rv,⟨oa,ea,ca⟩,St,D,st0,fromSt⟩:=S.drw X hP hw hK hc i pins s σ H xs I hit hq
  have hl:=rv.length
  have ei:its.length=i:=by omega
  rw [← ei] at st0
  obtain ⟨f0,f1,f2,f3,f4,f5⟩:=hf it (by simp)
  exact wpAny_pyNext_enum_endD D he st0 fun h1 eb=>⟨rfl,I.turned (t':=s.toks) (fun b o hb q=>eb b o hb q) f0 f1 f3 f4 f5⟩
 self:=fun _ _ _ _ _ st h=>wpAny_pyIter_enum st.1.choose_spec h
section
variable {X:Cx}
theorem enum_fin{pins:List (Addr×Obj)}{σ:St}{H:Hp}{s:Shared}{h':Heap}{a:Addr}{Sq:Hp→List V→Prop}{IsIt:Nat→Heap→Prop}{R:It→Hp→Prop}{tg:Expr}(htg:∃ es x1 pos,tg = .Tuple es x1 pos)(I:Inv X pins σ H s)(S:EnumSrc X.prog X.w X.K a s.heap.objs.size Sq IsIt)
  (he:IsEnum h' (s.heap.objs.size + 1) s.heap.objs.size 0 .none) (hit:IsIt 0 h') (hk:∀ b o,s.heap.get? b=some o→h'.get? b=some o) (q:R (Ite Sq) H) {E:Value→Shared→Prop} :
  wpAny (model X.prog X.w) X.A (pyIter (.ref (s.heap.objs.size + 1))) (PIE X pins σ tg R) E { s with heap:=h' }:=by
 obtain ⟨es,x1,pos,rfl⟩:=htg
 refine wpAny_pyIter_enum (s:={ s with heap:=h' }) he ?_
 refine ⟨s.heap.objs.size + 1,[s.heap.objs.size + 1,s.heap.objs.size],_,_,H,rfl,I.kept (t':=s.toks) hk,turn_enum S (s.heap.objs.size + 1) (Nat.succ_ne_self _),⟨⟨_,he⟩,hit⟩,fun b hb=>?_,q⟩
 rcases List.mem_cons.mp hb with z | z
 ·subst z;exact I.fpOk (Nat.le_succ _) (I.hok.fresh (Nat.le_succ _))
 ·have z:=List.mem_singleton.mp z
  subst z;exact I.fpOk (Nat.le_refl _) (I.hok.fresh (Nat.le_refl _))
end
end L2
namespace HT
open PySem PySem.Spec PyProof.Rows
section
variable {prog:Program} {w:World} {A:Around} {E:Value→Shared→Prop} {s:Shared}
theorem getItem_tuple_all{t sl:Addr}{items:Array Value}{vl vu:Value}{lo hi:Option Int}{Q:Value→Shared→Prop}(ht:IsTup s.heap t items)(hs:s.heap.IsSliceOf sl vl vu .none)(pl:IsPart vl lo)(pu:IsPart vu hi)
  (hw:sIx items.size 0 lo=0∧sIx items.size items.size hi=items.size) (h:Q (.ref t) s):wpAny (model prog w) A (getItem (.ref t) (.ref sl)) Q E s:=by
 obtain ⟨os,hos,hcs,hds⟩:=id hs
 have hTs:s.TypeIs (.ref sl) "slice":=⟨os,hos,hcs⟩
 unfold getItem
 try with_reducible refine wpAny_holding ?_
 first | refine wpAny_bind (wpAny_pure ?_) | skip
 refine wpAny_bind (wpAny_sequenceKey ht.typeIs (by decide) ?_)
 refine wpAny_bind (wpAny_callSpecial?_slot (name:=Str.ofString "__getitem__") ht.typeIs PyProof.Rows.slot_tuple_getitem
  (wpAny_call_entry PyProof.Rows.slot_tuple_getitem ht.typeIs entry_tuple_getitem ?_ (args_tuple_getitem _ _)))
 show wpAny _ _ (Builtin.Tuple.tupleItemsOf (.ref t) >>= _) _ _ s
 refine wpAny_bind (tupleItemsOf_ ht ?_)
 refine wpAny_bind (wpAny_typeOf hTs ?_)
 rw [if_pos (by decide)]
 refine wpAny_bind (sliceApplied_gen hs pl pu ?_)
 have hyes:(((sIx items.size 0 lo:Nat):Int) == 0 && (1:Int) == 1 && (sIx items.size items.size hi - sIx items.size 0 lo) == items.size)=true:=by
  rw [hw.1,hw.2];simp
 show wpAny _ _ (if (((sIx items.size 0 lo:Nat):Int) == 0 && (1:Int) == 1 && (sIx items.size items.size hi - sIx items.size 0 lo) == items.size)=true then _ else _) _ _ s
 rw [if_pos hyes]
 refine wpAny_bind (m:=Builtin.Tuple.tupleIsExact _) ?_
 unfold Builtin.Tuple.tupleIsExact
 refine wpAny_bind (wpAny_typeOf ht.typeIs (wpAny_pure ?_))
 rw [if_pos (by decide)]
 exact wpAny_bind (wpAny_rule (wpAny_bind (wpAny_pure (wpAny_pure ⟨_,rfl,wpAny_pure h⟩))))
end
end HT
namespace L2
open PySem PySem.Spec PyProof.Rows
section
variable {X:Cx}
end
end L2
namespace L2
open PySem PySem.Spec PyProof.Rows
mutual
inductive Is(H:Hp):V→PyData→Prop
 |non:Is H .non .none
 |bl (b:Bool):Is H (.bl b) (.bool b)
 |int (i:Int):Is H (.int i) (.int i)
 |str (x:Str):Is H (.str x) (.str x)
 |lst {a:Addr} {xs:List V} {ds:List PyData}:H a=some (.lst xs)→Iss H xs ds→Is H (.ref a) (.list ds)
 |tup {a:Addr} {xs:List V} {ds:List PyData}:H a=some (.tup xs)→Iss H xs ds→Is H (.ref a) (.tuple ds)
inductive Iss(H:Hp):List V→List PyData→Prop
 |nil:Iss H [] []
 |cons {x:V} {d:PyData} {xs:List V} {ds:List PyData}:Is H x d→Iss H xs ds→Iss H (x :: xs) (d :: ds)
end
section
variable {X:Cx} {pins:List (Addr×Obj)} {σ:St} {H:Hp} {s:Shared}
end
end L2
namespace L2
open PySem PySem.Spec PyProof.Rows
structure Cal(P:Program)(w:World)(K:PySem.W.Frag)(mg:Str→Option Value)(base:Heap)(k:Nat)(x:Str)(ps:List Str)(sp:Sp):Prop where
 ex:∃ (f:Addr) (fd:FuncData),FnOk P w K mg base CX0 k f fd ps sp∧mg x=some (.ref f)∧PySem.W.keepIn K (.ref f)=true∧Binds K fd ps []
section
variable {X:Cx} {k:Nat} {ps:List Str} {sp:Sp} {x:Str} {p pos:Pos} {e:Expr} {es:List Expr} {t:TA}
theorem pe_cal(c:Cal X.prog X.w X.K X.mg X.base k x ps sp)(hr:Room k X.A)(hg:Gl X x)(ha:PA X (e :: es) t)(hdb:(x == ("__debug__":Str))=false:=by decide)
  (he:starEach (e :: es) X.env=(false,eval e X.env) :: starEach es X.env:=by rfl) (hpl:(backTo pos (starEach es X.env)).any (·.1)=false:=by rfl):PE X (.Call (.Name x p) (e :: es) [] pos) (tCall sp [] E0 t):=by
 obtain ⟨f,fd,F,hm,hk,hb⟩:=c.ex
 exact pe_call F hr hg hm hk hb .nil pass0 ha hdb he hpl
end
end L2
namespace L2
open PySem PySem.Spec PyProof.Rows
section
variable {X:Cx}
end
end L2
namespace L2
open PySem PySem.Spec PyProof.Rows
section
variable {X:Cx} {e st:Expr} {te:TE} {lo hi:Option Expr} {tl th ts:TO} {pos p2:Pos}
end
end L2
namespace L2
open PySem PySem.Spec PyProof.Rows
section
variable {X:Cx}
theorem get_list:PGet X (fun o i H Q=>∃ (p:Addr) (xs:List V) (j:Nat) (v:V),o = .ref p∧i = .int ((j:Nat):Int)∧SqL X.K H p xs∧xs[j]?=some v∧Q v H):=by
 intro pins s σ H o i ov iv Q I ro ri h
 obtain ⟨p,xs,j,v,rfl,rfl,hq,hx,q⟩:=h
 cases ro
 obtain ⟨t,rfl⟩:=ri
 obtain ⟨its,r,pl,hz⟩:=I.list hq
 obtain ⟨w,ew,rw'⟩:=r.get hx
 have hn:=line63
 have hj:j < xs.length:=(List.getElem?_eq_some_iff.mp hx).1
 exact wpAny_getItem_list pl.isList (by omega) (by omega) (by rw [Int.toNat_natCast];simpa using ew) ⟨v,H,I,rw',q⟩
end
end L2
namespace L2
open PySem PySem.Spec PyProof.Rows
section
variable {prog:Program} {w:World} {A:Around} {E:Value→Shared→Prop} {s:Shared}
end
section
variable {X:Cx} {pos:Pos}
end
end L2
namespace L2
open PySem PySem.Spec PyProof.Rows
section
variable {prog:Program} {w:World} {A:Around} {E:Value→Shared→Prop} {s:Shared}
structure ZApart(z TI TO i1 i2:Addr)(f1 f2:List Addr):Prop where
 TIz:TI ≠ z
 TOz:TO ≠ z
 i1z:i1 ≠ z
 i2z:i2 ≠ z
 TITO:TI ≠ TO
 TIi1:TI ≠ i1
 TIi2:TI ≠ i2
 TOi1:TO ≠ i1
 TOi2:TO ≠ i2
 i12:i1 ≠ i2
 z1:z ∉ f1
 z2:z ∉ f2
 o1:TO ∉ f1
 o2:TO ∉ f2
 x1:i2 ∉ f1
 x2:i1 ∉ f2
theorem off{c:Addr}{f:List Addr}(h:c ∉ f){h1 h2:Heap}(sb:Heap.ExtBut c h1 h2):∀ b ∈ f,∀ o,h1.get? b=some o→h2.get? b=some o:=fun b hb o q=>sb b o (fun z=>h (z ▸ hb)) q
theorem zip_itemD{z TI TO i1 i2:Addr}{f1 f2:List Addr}{n1 n2 k:Nat}{P1 P2:Nat→Value→Prop}{S1 S2:Nat→Heap→Prop}{a b:Value}{Q:Value→Shared→Prop}(D1:Draws prog w A i1 f1 n1 P1 S1)(D2:Draws prog w A i2 f2 n2 P2 S2)
  (D:ZApart z TI TO i1 i2 f1 f2) (hz:IsZip s.heap z TI TO .none) (hTI:IsPair s.heap TI (.ref i1) (.ref i2)) (hTO:IsPair s.heap TO a b) (s1:S1 k s.heap) (s2:S2 k s.heap) (k1:k < n1) (k2:k < n2)
  (hQ:∀ x y h' tk,P1 k x→P2 k y→IsZip h' z TI TO (rawInt s.heap.objs.size)→IsPair h' TO x y→S1 (k + 1) h'→S2 (k + 1) h'→IsPair h' s.heap.objs.size x y →
   (∀ c o,c ≠ z→c ≠ TO→c ≠ i1→c ≠ i2→s.heap.get? c=some o→h'.get? c=some o)→Q (.ref s.heap.objs.size) { s with heap:=h',toks:=tk }) :
  wpAny (model prog w) A (Builtin.«zip.__next__» ⟨[.ref z],[]⟩) (fun fin s'=>∃ v,fin = .done (.ret v)∧Q v s') E s:=by
 show wpAny _ _ (field (.ref z) 2 >>= _) _ _ _
 refine wpAny_bind (wpAny_field hz rfl (x:=.bool false) rfl ?_)
 show wpAny _ _ (field (.ref z) 3 >>= _) _ _ _
 refine wpAny_bind (wpAny_field hz rfl (x:=.ref TI) rfl (wpAny_bind (wpAny_seqItems hTI rfl ?_)))
 show wpAny _ _ (Builtin.SmallTypes.ownedTupleIsFree (.ref z) >>= _) _ _ _
 refine wpAny_bind ?_
 unfold Builtin.SmallTypes.ownedTupleIsFree
 refine wpAny_bind (wpAny_field hz rfl (x:=.none) rfl (wpAny_pure ?_))
 simp only [if_true]
 refine wpAny_bind (wpAny_rule (wpAny_bind (wpAny_field hz rfl (x:=.ref TO) rfl (wpAny_bind (wpAny_setField_rec hz (by simp) fun g1 hz1 e1=>?_)))))
 replace hz1:IsZip g1 z TI TO .ellipsis:=hz1
 refine wpAny_bind ?_
 simp only [List.zipIdx_cons,List.zipIdx_nil,List.forIn_cons,List.forIn_nil]
 refine wpAny_bind (wpAny_bind (wpAny_onRaise ?_))
 show wpAny _ _ (Builtin.SmallTypes.nextOf (.ref i1) >>= _) _ _ _
 refine wpAny_bind (D1.item k { s with heap:=g1 } _ _ k1 (D1.frame _ _ _ s1 (off D.z1 e1.extBut)) fun x g2 t2 px s1' e2=>wpAny_pure ?_)
 have hTO2:IsPair g2 TO a b:=e2.extBut _ _ D.TOi1 (e1.extBut _ _ D.TOz hTO)
 refine wpAny_bind (wpAny_seqItems hTO2 rfl (wpAny_bind (wpAny_updateSeq_pair hTO2 fun g3 hTO3 e3=>?_)))
 replace hTO3:IsPair g3 TO x b:=hTO3
 refine wpAny_bind (wpAny_letGo (wpAny_pure (wpAny_bind (wpAny_bind (wpAny_onRaise ?_)))))
 show wpAny _ _ (Builtin.SmallTypes.nextOf (.ref i2) >>= _) _ _ _
 have s2':S2 k g3:=D2.frame _ _ _ (D2.frame _ _ _ (D2.frame _ _ _ s2 (off D.z2 e1.extBut)) (off D.x2 e2.extBut)) (off D.o2 e3.extBut)
 refine wpAny_bind (D2.item k { s with heap:=g3,toks:=t2 } _ _ k2 s2' fun y g4 t4 py s2'' e4=>wpAny_pure ?_)
 have hTO4:IsPair g4 TO x b:=e4.extBut _ _ D.TOi2 hTO3
 refine wpAny_bind (wpAny_seqItems hTO4 rfl (wpAny_bind (wpAny_updateSeq_pair hTO4 fun g5 hTO5 e5=>?_)))
 replace hTO5:IsPair g5 TO x y:=hTO5
 refine wpAny_bind (wpAny_letGo (wpAny_pure (wpAny_pure (wpAny_bind (wpAny_seqItems hTO5 rfl (wpAny_bind (wpAny_newTuple ?_)))))))
 have sz1:g1.objs.size=s.heap.objs.size:=e1.1
 have sz2:g2.objs.size=g1.objs.size:=e2.1
 have sz4:g4.objs.size=g3.objs.size:=e4.1
 have hsz:g5.objs.size=s.heap.objs.size:=by rw [e5.1,sz4,e3.1,sz2,sz1]
 have hz5:IsZip g5 z TI TO .ellipsis:=e5.extBut _ _ D.TOz.symm (e4.extBut _ _ D.i2z.symm (e3.extBut _ _ D.TOz.symm (e2.extBut _ _ D.i1z.symm hz1)))
 have hk5:∀ c o,c ≠ z→c ≠ TO→c ≠ i1→c ≠ i2→s.heap.get? c=some o→g5.get? c=some o:=fun c o c1 c2 c3 c4 e=>e5.extBut _ _ c2 (e4.extBut _ _ c4 (e3.extBut _ _ c2 (e2.extBut _ _ c3 (e1.extBut _ _ c1 e))))
 have s15:S1 (k + 1) g5:=D1.frame _ _ _ (D1.frame _ _ _ (D1.frame _ _ _ s1' (off D.o1 e3.extBut)) (off D.x1 e4.extBut)) (off D.o1 e5.extBut)
 have s25:S2 (k + 1) g5:=D2.frame _ _ _ s2'' (off D.o2 e5.extBut)
 have hzlt:z < g5.objs.size:=Heap.lt_size hz5
 show wpAny _ _ (Builtin.SmallTypes.ownedTupleHandOut (.ref z) (.ref g5.objs.size) >>= _) _ _ _
 refine wpAny_bind ?_
 unfold Builtin.SmallTypes.ownedTupleHandOut
 have hz6:IsZip (g5.push { cls:=.type "tuple",data:=.seq #[x,y] }) z TI TO .ellipsis:=Heap.get?_push_of_some _ hz5
 refine wpAny_bind (wpAny_setField_rec hz6 (by simp) fun g7 hz7 e7=>?_)
 replace hz7:IsZip g7 z TI TO (rawInt g5.objs.size):=hz7
 refine wpAny_setField_rec hz7 (by simp) fun g8 hz8 e8=>?_
 replace hz8:IsZip g8 z TI TO (rawInt g5.objs.size):=hz8
 have up:∀ c o,c ≠ z→g5.get? c=some o→g8.get? c=some o:=fun c o c1 e=>e8.extBut _ _ c1 (e7.extBut _ _ c1 (Heap.get?_push_of_some _ e))
 have hT8:IsPair g8 g5.objs.size x y:=e8.extBut _ _ (Nat.ne_of_gt hzlt) (e7.extBut _ _ (Nat.ne_of_gt hzlt) (Heap.get?_push_size _ rfl))
 rw [hsz] at hz8 hT8
 refine wpAny_pure ⟨_,rfl,?_⟩
 show Q (.ref g5.objs.size) _
 rw [hsz]
 exact hQ x y g8 _ px py hz8 (up _ _ D.TOz hTO5) (D1.frame _ _ _ s15 fun c hc o e=>up c o (fun q=>D.z1 (q ▸ hc)) e) (D2.frame _ _ _ s25 fun c hc o e=>up c o (fun q=>D.z2 (q ▸ hc)) e) hT8 fun c o c1 c2 c3 c4 e=>up c o c1 (hk5 c o c1 c2 c3 c4 e)
theorem zip_endD{z TI TO i1 i2:Addr}{f1 f2:List Addr}{n:Nat}{m2:Nat}{P1 P2:Nat→Value→Prop}{S1 S2:Nat→Heap→Prop}{a b:Value}{Q:Fin→Shared→Prop}(D1:Draws prog w A i1 f1 n P1 S1)(D2:Draws prog w A i2 f2 m2 P2 S2)
  (D:ZApart z TI TO i1 i2 f1 f2) (hz:IsZip s.heap z TI TO .none) (hTI:IsPair s.heap TI (.ref i1) (.ref i2)) (hTO:IsPair s.heap TO a b) (s1:S1 n s.heap)
  (hE:∀ h' e,(∀ c o,c ≠ z→c ≠ TO→c ≠ i1→c ≠ i2→s.heap.get? c=some o→h'.get? c=some o)→(∃ o,h'.get? e=some o∧o.cls = .type "StopIteration")→E (.ref e) { s with heap:=h' }) :
  wpAny (model prog w) A (Builtin.«zip.__next__» ⟨[.ref z],[]⟩) Q E s:=by
 show wpAny _ _ (field (.ref z) 2 >>= _) _ _ _
 refine wpAny_bind (wpAny_field hz rfl (x:=.bool false) rfl ?_)
 show wpAny _ _ (field (.ref z) 3 >>= _) _ _ _
 refine wpAny_bind (wpAny_field hz rfl (x:=.ref TI) rfl (wpAny_bind (wpAny_seqItems hTI rfl ?_)))
 show wpAny _ _ (Builtin.SmallTypes.ownedTupleIsFree (.ref z) >>= _) _ _ _
 refine wpAny_bind ?_
 unfold Builtin.SmallTypes.ownedTupleIsFree
 refine wpAny_bind (wpAny_field hz rfl (x:=.none) rfl (wpAny_pure ?_))
 simp only [if_true]
 refine wpAny_bind (wpAny_rule (wpAny_bind (wpAny_field hz rfl (x:=.ref TO) rfl (wpAny_bind (wpAny_setField_rec hz (by simp) fun g1 hz1 e1=>?_)))))
 replace hz1:IsZip g1 z TI TO .ellipsis:=hz1
 refine wpAny_bind ?_
 simp only [List.zipIdx_cons,List.zipIdx_nil,List.forIn_cons,List.forIn_nil]
 refine wpAny_bind (wpAny_bind (wpAny_onRaise ?_))
 show wpAny _ _ (Builtin.SmallTypes.nextOf (.ref i1) >>= _) _ _ _
 refine wpAny_bind (D1.done { s with heap:=g1 } _ _ (D1.frame _ _ _ s1 (off D.z1 e1.extBut)) fun g2 e e2 he=>?_)
 obtain ⟨oe,hoe,hce⟩:=he
 have hz2:IsZip g2 z TI TO .ellipsis:=e2 _ _ D.i1z.symm hz1
 have hez:e ≠ z:=fun q=>by subst q;rw [hz2] at hoe;cases hoe;simp at hce
 exact wpAny_setField_rec hz2 (by simp) fun g3 _ e3=>hE g3 e (fun c o c1 _ c3 _ q=>e3.extBut _ _ c1 (e2 _ _ c3 (e1.extBut _ _ c1 q))) ⟨oe,e3.extBut _ _ hez hoe,hce⟩
end
end L2
namespace L2
open PySem PySem.Spec PyProof.Rows
section
variable {X:Cx}
theorem vals_bools:∀ {bs:List Bool} {its:List Value},Vals (bs.map V.bl) its→its=bs.map Value.bool
 |[],_,r=>by rw [List.map_nil] at r;cases r;rfl
 |b :: bs,_,r=>by
  rw [List.map_cons] at r
  cases r with
  |cons h t=>rw [vals_bools t,(show _=Value.bool b from h)];rfl
theorem all_range(bs:List Bool):((List.range bs.length).all fun i=>(bs[i]?).getD true)=bs.all id:=by
 rw [Bool.eq_iff_iff,List.all_eq_true,List.all_eq_true]
 constructor
 ·intro h x hx
  obtain ⟨i,hi,rfl⟩:=List.getElem_of_mem hx
  have:=h i (List.mem_range.mpr hi)
  rw [List.getElem?_eq_getElem hi] at this
  exact this
 ·intro h i hi
  have hi:=List.mem_range.mp hi
  rw [List.getElem?_eq_getElem hi]
  exact h _ (List.getElem_mem hi)
theorem call_all_bools(hc:X.calm=true):CallR X (.builtin "all") (fun xs H Q=>∃ (l:Addr) (bs:List Bool),xs=[.ref l]∧SqL X.K H l (bs.map V.bl)∧Q (.bl (bs.all id)) H):=by
 intro pins s σ H xs us Q I r h
 obtain ⟨l,bs,rfl,hq,q⟩:=h
 obtain ⟨u,rfl,ru⟩:=vals1 r
 cases ru
 obtain ⟨its,rv,p,hz⟩:=I.list hq
 have e:=vals_bools rv
 subst e
 have hlt:l < s.heap.objs.size:=let ⟨_,e,_⟩:=p.isList;Heap.lt_size e
 refine call_all_walk (wpAny_pyIter_list p.isList ⟨s.heap.objs.size,[s.heap.objs.size,l],[s.heap.objs.size],(bs.map Value.bool).toArray.size,_,_,fun i=>(bs[i]?).getD true,rfl,Walks.list (A:=X.A.in1) (I.ok.hd hc) _ l (Nat.ne_of_lt hlt) _,⟨⟨_,Heap.get?_push_size _ rfl,rfl,rfl⟩,p.isList.push _⟩,fun i v s' Q' E' hP hQ=>?_,fun h' tk hk=>?_⟩)
 ·have hP:(bs.map Value.bool)[i]?=some v:=by simpa using hP
  rw [List.getElem?_map] at hP
  cases e:bs[i]? with
  |none=>rw [e] at hP;cases hP
  |some b =>
   rw [e] at hP
   cases hP
   have hQ:Q' ((bs[i]?).getD true) s':=hQ
   rw [e] at hQ
   exact wpAny_truthy_bool hQ
 ·have e:((List.range (bs.map Value.bool).toArray.size).all fun i=>(bs[i]?).getD true)=bs.all id:=by
   rw [List.size_toArray,List.length_map];exact all_range bs
  rw [e]
  refine ⟨.bl (bs.all id),H,I.kept (t':=tk) (fun b o q=>hk b o (fun z=>?_) (Heap.get?_push_of_some _ q)),rfl,q⟩
  rw [List.mem_singleton.mp z] at q
  exact Nat.lt_irrefl _ (Heap.lt_size q)
end
end L2
namespace L2
open PySem PySem.Spec PyProof.Rows
section
variable {X:Cx} {tg:Expr}
end
theorem Inv.turnedL{X:Cx}{pins:List (Addr×Obj)}{σ:St}{H:Hp}{s:Shared}{h':Heap}{t':Nat}{ch:List Addr}(I:Inv X pins σ H s)(k:∀ b o,b ∉ ch→s.heap.get? b=some o→h'.get? b=some o)(f:∀ b ∈ ch,FpOk X pins H b):Inv X pins σ H { s with heap:=h',toks:=t' }:=by
 have nit:∀ b u,H b=some u→b ∉ ch:=fun b u q z=>by rw [(f b z).1] at q;cases q
 refine I.step (g':=s.gens) (d':=s.drawn) (ch:=ch) (fun b hb=>?_) (fun b o _ _ hc q _=>k b o hc q) (fun b o _ _ hc q _=>⟨o.slots,k b o hc q⟩) (fun _ _ _ _ n=>n)
  (fun b o hc q=>⟨o,k b o hc q⟩) (fun _ _ q=>q) (fun _ _ _ q=>q) (fun b ps q=>⟨#[],by rw [q];simp⟩) (fun m hm=>?_) (fun b u q=>?_) I.bare
 ·have fe:=f b hb
  exact ⟨fe.2.2.2.1,fe.2.1,fe.2.2.2.2.1,fe.2.2.2.2.2⟩
 ·obtain ⟨o,es,ep,ho,r⟩:=hm
  exact ⟨o,es,ep,k _ o (fun z=>(f _ z).2.1 rfl) ho,r⟩
 ·refine (I.hok b u q).stay (fun c v hc z=>?_) (fun _ z=>z) fun _ _ z=>z
  rcases hc with y | y
  ·rw [y];rw [y] at z;exact k b v (nit b u q) z
  ·exact k c v (nit c _ y) z
noncomputable def Itz(S1 S2:Hp→List V→Prop):It :=
 ⟨fun i H=>∃ xs ys x y,S1 H xs∧S2 H ys∧xs[i]?=some x∧ys[i]?=some y,fun i H x H'=>∃ T v u,x = .ref T∧H T=none∧H'=upd H T (.tup [v,u])∧(∀ xs,S1 H xs→xs[i]?=some v)∧∀ ys,S2 H ys→ys[i]?=some u,
  fun i H=>∃ xs ys,S1 H xs∧S2 H ys∧xs.length=i⟩
theorem turn_zip{P:Program}{w:World}{K:PySem.W.Frag}{a1 a2 z TI TO i1 i2:Addr}{Q1 Q2:Hp→List V→Prop}{T1 T2:Nat→Heap→Prop}(S1:EnumSrc P w K a1 i1 Q1 T1)(S2:EnumSrc P w K a2 i2 Q2 T2)(D:ZApart z TI TO i1 i2 [i1,a1] [i2,a2]){es:List Expr}{x1}{pos:Pos} :
  Turn P w K (.Tuple es x1 pos) (Itz Q1 Q2) [z,TI,TO,i1,i2] z (fun i h=>IsZip h z TI TO .none∧IsPair h TI (.ref i1) (.ref i2)∧(∃ a b,IsPair h TO a b)∧T1 i h∧T2 i h) where
 mem:=by simp
 obj:=fun i h st b hb=>by
  obtain ⟨hz,hTI,⟨a,b',hTO⟩,t1,t2⟩:=st
  simp only [List.mem_cons,List.not_mem_nil,or_false] at hb
  rcases hb with e | e | e | e | e
  ·subst e;exact ⟨_,hz,fun v q=>by cases q⟩
  ·subst e;exact ⟨_,hTI,fun v q=>by cases q⟩
  ·subst e;exact ⟨_,hTO,fun v q=>by cases q⟩
  ·subst e;exact S1.live i h t1
  ·subst e;exact S2.live i h t2
 keep:=fun i h h' st k=>by
  obtain ⟨hz,hTI,⟨a,b',hTO⟩,t1,t2⟩:=st
  exact ⟨k z (by simp) _ hz,k TI (by simp) _ hTI,⟨a,b',k TO (by simp) _ hTO⟩,S1.at_ i h h' t1 fun o q=>k i1 (by simp) o q,S2.at_ i h h' t2 fun o q=>k i2 (by simp) o q⟩
 item:=by
  intro X hP hw hK hc i pins s σ H E I hf st hg
  obtain ⟨hz,hTI,⟨a,b',hTO⟩,t1,t2⟩:=st
  obtain ⟨xs,ys,x,y,hx,hy,gx,gy⟩:=hg
  obtain ⟨its1,rv1,_,St1,D1,st1,from1⟩:=S1.drw X hP hw hK hc i pins s σ H xs I t1 hx
  obtain ⟨its2,rv2,_,St2,D2,st2,from2⟩:=S2.drw X hP hw hK hc i pins s σ H ys I t2 hy
  obtain ⟨u,hu,ru⟩:=rv1.get gx
  obtain ⟨v,hv,rv⟩:=rv2.get gy
  have l1:i < its1.length:=(List.getElem?_eq_some_iff.mp hu).1
  have l2:i < its2.length:=(List.getElem?_eq_some_iff.mp hv).1
  have hT:s.TypeIs (.ref z) "zip":=⟨_,hz,rfl⟩
  unfold pyNext
  refine wpAny_bind (wpAny_attempt (wpAny_callSpecial?_slot (name:=Str.ofString "__next__") hT F.slot_zip_next (wpAny_call_entry F.slot_zip_next hT F.entry_zip_next
   (zip_itemD D1 D2 D hz hTI hTO st1 st2 l1 l2 fun x' y' h1 tk px py e1 e2 e3 e4 e5 e6=>wpAny_pure ?_) (F.args_zip_next_1 _))))
  have ex:x'=u:=Option.some.inj (px.symm.trans hu)
  have ey:y'=v:=Option.some.inj (py.symm.trans hv)
  subst ex ey
  refine ⟨_,rfl,wpAny_letOwnedTupleGo_zip (s:={ s with heap:=h1,toks:=tk }) e1 fun h2 z2 sb2=>?_⟩
  have hN:H s.heap.objs.size=none:=I.hok.fresh (Nat.le_refl _)
  have Im:Inv X pins σ (upd H s.heap.objs.size (.tup [x,y])) { s with heap:=s.heap.push { cls:=.type "tuple",data:=.seq #[x',y'] } } :=
   I.laid (t':=s.toks) (fun b v q=>Heap.get?_push_of_some _ q) (Nat.le_refl _) ⟨by show 2 ≤ sizeLine;decide,[x',y'],.cons ru (.cons rv .nil),⟨_,Heap.get?_push_size _ rfl,rfl,_,rfl⟩⟩
  have live:∀ b ∈ [z,TI,TO,i1,i2],b ≠ s.heap.objs.size:=fun b hb q=>by
   simp only [List.mem_cons,List.not_mem_nil,or_false] at hb
   have lt:∀ {c o},s.heap.get? c=some o→c ≠ s.heap.objs.size:=fun e=>Nat.ne_of_lt (Heap.lt_size e)
   rcases hb with e | e | e | e | e
   ·exact lt hz (e ▸ q)
   ·exact lt hTI (e ▸ q)
   ·exact lt hTO (e ▸ q)
   ·obtain ⟨o,r,_⟩:=S1.live i _ t1
    exact lt r (e ▸ q)
   ·obtain ⟨o,r,_⟩:=S2.live i _ t2
    exact lt r (e ▸ q)
  have fp':∀ b ∈ [z,TI,TO,i1,i2],FpOk X pins (upd H s.heap.objs.size (.tup [x,y])) b:=fun b hb=>⟨by rw [upd_ne (live b hb)];exact (hf b hb).1,(hf b hb).2⟩
  have I2:Inv X pins σ (upd H s.heap.objs.size (.tup [x,y])) { s with heap:=h2,toks:=tk } :=
   Inv.turnedL (s:={ s with heap:=s.heap.push { cls:=.type "tuple",data:=.seq #[x',y'] } }) (t':=tk) (h':=h2) (ch:=[z,TI,TO,i1,i2]) Im (fun b o hb q=>by
    have q:(s.heap.push { cls:=.type "tuple",data:=.seq #[x',y'] }).get? b=some o:=q
    simp only [List.mem_cons,List.not_mem_nil,or_false,not_or] at hb
    refine (sb2.2 b hb.1).trans ?_
    rcases Heap.get?_push_cases q with ⟨hb',ho⟩ | q'
    ·subst hb';subst ho;exact e5
    ·exact e6 b o hb.1 hb.2.2.1 hb.2.2.2.1 hb.2.2.2.2 q') fp'
  refine ⟨.ref s.heap.objs.size,_,I2,rfl,⟨_,x,y,rfl,hN,rfl,fun zs hzs=>by rw [S1.inj X hP hw hK pins s σ H zs xs I hzs hx];exact gx,fun zs hzs=>by rw [S2.inj X hP hw hK pins s σ H zs ys I hzs hy];exact gy⟩,
   ⟨z2,sb2.extBut _ _ D.TIz (e6 TI _ D.TIz D.TITO D.TIi1 D.TIi2 hTI),⟨_,_,sb2.extBut _ _ D.TOz e2⟩,S1.at_ _ _ _ (from1 _ _ e3) fun o q=>(sb2.2 i1 D.i1z).trans q,S2.at_ _ _ _ (from2 _ _ e4) fun o q=>(sb2.2 i2 D.i2z).trans q⟩,fun b hb=>(fp' b hb).1⟩
 done:=by
  intro X hP hw hK hc i pins s σ H E I hf st hg
  obtain ⟨hz,hTI,⟨a,b',hTO⟩,t1,t2⟩:=st
  obtain ⟨xs,ys,hx,hy,gx⟩:=hg
  obtain ⟨its1,rv1,_,St1,D1,st1,from1⟩:=S1.drw X hP hw hK hc i pins s σ H xs I t1 hx
  obtain ⟨its2,rv2,_,St2,D2,st2,from2⟩:=S2.drw X hP hw hK hc i pins s σ H ys I t2 hy
  have hl:=rv1.length
  have ei:its1.length=i:=by omega
  rw [← ei] at st1
  have hT:s.TypeIs (.ref z) "zip":=⟨_,hz,rfl⟩
  unfold pyNext
  refine wpAny_bind (wpAny_attempt (wpAny_callSpecial?_slot (name:=Str.ofString "__next__") hT F.slot_zip_next (wpAny_call_entry F.slot_zip_next hT F.entry_zip_next
   (zip_endD D1 D2 D hz hTI hTO st1 fun h' e hk he=>?_) (F.args_zip_next_1 _))))
  obtain ⟨o,ho,hcl⟩:=he
  refine wpAny_bind (wpAny_isInstance (T:= "StopIteration") (b:=true) ⟨o,ho,hcl⟩ isSubtype_stop (wpAny_pure ⟨rfl,?_⟩))
  exact I.turnedL (t':=s.toks) (ch:=[z,TI,TO,i1,i2]) (fun b o hb q=>by
   simp only [List.mem_cons,List.not_mem_nil,or_false,not_or] at hb
   exact hk b o hb.1 hb.2.2.1 hb.2.2.2.1 hb.2.2.2.2 q) hf
 self:=fun _ _ _ _ _ st h=>wpAny_pyIter_zip st.1 h
noncomputable abbrev zT1(h:Heap)(l1:Addr):Heap:=h.push { cls:=.type "tuple_iterator",data:=.fields #[.ref l1,.int 0 0] }
noncomputable abbrev zT2(h:Heap)(l1 l2:Addr):Heap:=(zT1 h l1).push { cls:=.type "tuple_iterator",data:=.fields #[.ref l2,.int 0 0] }
noncomputable abbrev zT3(h:Heap)(l1 l2:Addr):Heap:=(zT2 h l1 l2).push { cls:=.type "tuple",data:=.seq #[.ref h.objs.size,.ref (zT1 h l1).objs.size] }
noncomputable abbrev zT4(h:Heap)(l1 l2:Addr):Heap:=(zT3 h l1 l2).push { cls:=.type "tuple",data:=.seq #[.none,.none] }
noncomputable abbrev zT5(h:Heap)(l1 l2:Addr):Heap:=(zT4 h l1 l2).push { cls:=.type "zip",data:=.fields #[.none,.bool false,.bool false,.ref (zT2 h l1 l2).objs.size,.ref (zT3 h l1 l2).objs.size] }
theorem meets_zip_newT(l1 l2:Addr)(xs ys:Array Value):Meets (Builtin.«zip.__new__» ⟨[.type "zip",.ref l1,.ref l2],[]⟩) (fun _ R s=>s.heap.IsTuple l1 xs∧s.heap.IsTuple l2 ys∧R (.ok (.ret (.ref (zT4 s.heap l1 l2).objs.size))) { s with heap:=zT5 s.heap l1 l2 }) :=
 .of_wp fun prog w A R s h=>by
  obtain ⟨hp,g,d,tk,os⟩:=s;obtain ⟨hl1,hl2,h⟩:=h
  have hsub:=sub_zip
  have q1:Heap.IsTuple (Shared.heap ⟨hp,g,d,tk,os⟩) l1 xs:=hl1
  have q2:Heap.IsTuple (Shared.heap ⟨hp.push { cls:=.type "tuple_iterator",data:=.fields #[.ref l1,.int 0 0] },g,d,tk,os⟩) l2 ys:=let ⟨o,e,r⟩:=hl2;⟨o,Heap.get?_push_of_some _ e,r⟩
  wp_walk using wpAny_pyIter_tuple q1,wpAny_pyIter_tuple q2
  exact ⟨_,rfl,h⟩
theorem call_zipT{prog:Program}{w:World}{A:Around}{E:Value→Shared→Prop}{s:Shared}{l1 l2:Addr}{xs ys:Array Value}{Q:Value→Shared→Prop}(hl1:s.heap.IsTuple l1 xs)(hl2:s.heap.IsTuple l2 ys)
  (h:∀ h',IsZip h' (s.heap.objs.size + 4) (s.heap.objs.size + 2) (s.heap.objs.size + 3) .none→IsPair h' (s.heap.objs.size + 2) (.ref s.heap.objs.size) (.ref (s.heap.objs.size + 1)) →
   IsPair h' (s.heap.objs.size + 3) .none .none→h'.IsTupleIter s.heap.objs.size l1 0→h'.IsTupleIter (s.heap.objs.size + 1) l2 0→(∀ c o,s.heap.get? c=some o→h'.get? c=some o)→Q (.ref (s.heap.objs.size + 4)) { s with heap:=h' }) :
  wpAny (model prog w) A (call (.type "zip") [.ref l1,.ref l2]) Q E s:=by
 refine callType_new F.called_zip (by decide) (F.typeCall_zip_2 _ _) (F.newCall_zip_2 _ _) (fun obj=>F.args_object_init_3 obj _ _) F.entry_zip_new (meets_zip_newT l1 l2 xs ys) ⟨hl1,hl2,?_⟩
 have z1:(zT1 s.heap l1).objs.size=s.heap.objs.size + 1:=Heap.size_push ..
 have z2:(zT2 s.heap l1 l2).objs.size=s.heap.objs.size + 2:=by rw [Heap.size_push,z1]
 have z3:(zT3 s.heap l1 l2).objs.size=s.heap.objs.size + 3:=by rw [Heap.size_push,z2]
 have z4:(zT4 s.heap l1 l2).objs.size=s.heap.objs.size + 4:=by rw [Heap.size_push,z3]
 have up1:∀ {c o},(zT4 s.heap l1 l2).get? c=some o→(zT5 s.heap l1 l2).get? c=some o:=fun q=>Heap.get?_push_of_some _ q
 have up2:∀ {c o},(zT3 s.heap l1 l2).get? c=some o→(zT5 s.heap l1 l2).get? c=some o:=fun q=>up1 (Heap.get?_push_of_some _ q)
 have up3:∀ {c o},(zT2 s.heap l1 l2).get? c=some o→(zT5 s.heap l1 l2).get? c=some o:=fun q=>up2 (Heap.get?_push_of_some _ q)
 have up4:∀ {c o},(zT1 s.heap l1).get? c=some o→(zT5 s.heap l1 l2).get? c=some o:=fun q=>up3 (Heap.get?_push_of_some _ q)
 have g5:(zT5 s.heap l1 l2).get? (zT4 s.heap l1 l2).objs.size=some _:=Heap.get?_push_size _ rfl
 have g4:(zT5 s.heap l1 l2).get? (zT3 s.heap l1 l2).objs.size=some _:=up1 (Heap.get?_push_size _ rfl)
 have g3:(zT5 s.heap l1 l2).get? (zT2 s.heap l1 l2).objs.size=some _:=up2 (Heap.get?_push_size _ rfl)
 have g2:(zT5 s.heap l1 l2).get? (zT1 s.heap l1).objs.size=some _:=up3 (Heap.get?_push_size _ rfl)
 have g1:(zT5 s.heap l1 l2).get? s.heap.objs.size=some _:=up4 (Heap.get?_push_size _ rfl)
 show _∧_
 rw [z2,z3,z4] at g5
 rw [z1,z2] at g3
 rw [z3] at g4
 rw [z1] at g2
 rw [z4]
 exact ⟨⟨_,g5,rfl⟩,h _ g5 g3 g4 ⟨_,g1,rfl,rfl⟩ ⟨_,g2,rfl,rfl⟩ fun c o x=>up4 (Heap.get?_push_of_some _ x)⟩
theorem notin2{x a b:Nat}(h1:x ≠ a)(h2:x ≠ b):x ∉ [a,b]:=by simp [h1,h2]
theorem zapart_new{n a1 a2:Nat}(h1:a1 < n)(h2:a2 < n):ZApart (n + 4:Nat) (n + 2:Nat) (n + 3:Nat) n (n + 1:Nat) [n,a1] [(n + 1:Nat),a2] where
 TIz:=(by omega:(n + 2:Nat) ≠ n + 4)
 TOz:=(by omega:(n + 3:Nat) ≠ n + 4)
 i1z:=(by omega:(n:Nat) ≠ n + 4)
 i2z:=(by omega:(n + 1:Nat) ≠ n + 4)
 TITO:=(by omega:(n + 2:Nat) ≠ n + 3)
 TIi1:=(by omega:(n + 2:Nat) ≠ n)
 TIi2:=(by omega:(n + 2:Nat) ≠ n + 1)
 TOi1:=(by omega:(n + 3:Nat) ≠ n)
 TOi2:=(by omega:(n + 3:Nat) ≠ n + 1)
 i12:=(by omega:(n:Nat) ≠ n + 1)
 z1:=notin2 (x:=n + 4) (by omega) (by omega)
 z2:=notin2 (x:=n + 4) (by omega) (by omega)
 o1:=notin2 (x:=n + 3) (by omega) (by omega)
 o2:=notin2 (x:=n + 3) (by omega) (by omega)
 x1:=notin2 (x:=n + 1) (by omega) (by omega)
 x2:=notin2 (x:=n) (by omega) (by omega)
section
variable {X:Cx}
theorem zip_fin{pins:List (Addr×Obj)}{σ:St}{H:Hp}{s:Shared}{h':Heap}{a b:Addr}{Q1 Q2:Hp→List V→Prop}{T1 T2:Nat→Heap→Prop}{R:It→Hp→Prop}{tg:Expr}(htg:∃ es x1 pos,tg = .Tuple es x1 pos)(I:Inv X pins σ H s)(ha:a < s.heap.objs.size)(hb:b < s.heap.objs.size)
  (S1:EnumSrc X.prog X.w X.K a s.heap.objs.size Q1 T1) (S2:EnumSrc X.prog X.w X.K b (s.heap.objs.size + 1) Q2 T2) (hz:IsZip h' (s.heap.objs.size + 4) (s.heap.objs.size + 2) (s.heap.objs.size + 3) .none)
  (hTI:IsPair h' (s.heap.objs.size + 2) (.ref s.heap.objs.size) (.ref (s.heap.objs.size + 1))) (hTO:IsPair h' (s.heap.objs.size + 3) .none .none) (t1:T1 0 h') (t2:T2 0 h') (hk:∀ b o,s.heap.get? b=some o→h'.get? b=some o) (q:R (Itz Q1 Q2) H) {E:Value→Shared→Prop} :
  wpAny (model X.prog X.w) X.A (pyIter (.ref (s.heap.objs.size + 4))) (PIE X pins σ tg R) E { s with heap:=h' }:=by
 obtain ⟨es,x1,pos,rfl⟩:=htg
 refine wpAny_pyIter_zip (s:={ s with heap:=h' }) hz ?_
 refine ⟨s.heap.objs.size + 4,[s.heap.objs.size + 4,s.heap.objs.size + 2,s.heap.objs.size + 3,s.heap.objs.size,s.heap.objs.size + 1],_,_,H,rfl,I.kept (t':=s.toks) hk,turn_zip S1 S2 (zapart_new ha hb),⟨hz,hTI,⟨_,_,hTO⟩,t1,t2⟩,fun c hc=>?_,q⟩
 have hge:s.heap.objs.size ≤ c:=by
  simp only [List.mem_cons,List.not_mem_nil,or_false] at hc
  rcases hc with e | e | e | e | e <;> (rw [e];simp)
 exact I.fpOk hge (I.hok.fresh hge)
end
end L2
namespace L2
open PySem
end L2
namespace L2
open PySem PySem.Spec PyProof.Rows
section
variable {prog:Program} {w:World} {A:Around} {E:Value→Shared→Prop} {s:Shared}
end
end L2
namespace L2
open PySem PySem.Spec PyProof.Rows
section
variable {prog:Program} {w:World} {A:Around} {E:Value→Shared→Prop} {s:Shared}
end
end L2
namespace L2
open PySem PySem.Spec PyProof.Rows
section
variable {X:Cx}
end
end L2
namespace L2
open PySem
end L2
namespace L2
open PySem PySem.Spec PyProof.Rows
section
variable {X:Cx}
end
end L2
namespace DL
open PySem PySem.Spec L2
inductive D where
 |non | bl (b:Bool) | int (i:Int) | str (x:Str) | tup (xs:List D) | lst (xs:List D) | scr (xs:List D) | ref (i:Nat)
 |exc (cn:Str) (fs:List (Str×Int))
inductive O where
 |lst (xs:List D) | dT (z:Option Obj) (kvs:List (List Key×D)) | dK (kvs:List (Key×D)) | ins (cn:Str) (fs:List (Str×D))
structure KP where
 K:PySem.W.Frag
 π:List Addr
noncomputable def VT(K:KP)(α:List Addr)(H:Hp)(a:Addr)(us:List V):Prop:=a ∉ α∧a ∉ K.π∧H a=some (.tup us)
noncomputable def VS(K:KP)(α:List Addr)(H:Hp)(a:Addr)(us:List V):Prop :=
 (a ∉ α∧a ∉ K.π∧Rd H a (.lst us))∨∃ (o:Obj) (its:Array Value) (n:Nat),K.K.lookup a=some o∧o.cls = .type "list"∧o.dict=none∧o.data = .seq its n∧its.size ≤ sizeLine∧Vals us its.toList
noncomputable def VL(K:KP)(α:List Addr)(H:Hp)(a:Addr)(us:List V):Prop:=a ∉ α∧a ∉ K.π∧H a=some (.lst us)
noncomputable def VE(K:KP)(α:List Addr)(H:Hp)(a:Addr)(o:HO):Prop:=a ∉ α∧a ∉ K.π∧H a=some o
noncomputable def xDict(fs:List (Str×Int))(dx:Addr)(h:Heap):Prop:=∃ mA,h.Ns1 dx mA∧PySem.Within mA (fs.map (·.1))∧∀ f,RelO ((fs.lookup f).map V.int) (mA f)
noncomputable def xAny(C:Addr)(dx:Option Addr)(a:Addr)(h:Heap):Prop:=∃ o vs,h.get? a=some o∧o.cls = .ref C∧o.dict=dx∧o.data = .fields vs
noncomputable def XQ(K:KP)(α:List Addr)(H:Hp)(dx:Option Addr)(fs:List (Str×Int)):Prop:=(dx=none∧fs=[])∨∃ d,dx=some d∧VE K α H d (.ext (xDict fs d))
theorem XQ.map{K K':KP}{α α':List Addr}{H H':Hp}{dx:Option Addr}{fs:List (Str×Int)}(hE:∀ a o,VE K α H a o→VE K' α' H' a o)(h:XQ K α H dx fs):XQ K' α' H' dx fs:=h.imp id fun ⟨d,e,v⟩=>⟨d,e,hE _ _ v⟩
theorem VT.sq{K:KP}{α:List Addr}{H:Hp}{a:Addr}{us:List V}(h:VT K α H a us):SqT K.K H a us:=.inl (.inl h.2.2)
theorem VS.sq{K:KP}{α:List Addr}{H:Hp}{a:Addr}{us:List V}(h:VS K α H a us):SqL K.K H a us:=by
 rcases h with ⟨_,_,h⟩ | h
 ·exact .inl h
 ·exact .inr h
theorem VL.sq{K:KP}{α:List Addr}{H:Hp}{a:Addr}{us:List V}(h:VL K α H a us):SqL K.K H a us:=SqL.of h.2.2
mutual
inductive RelD(K:KP)(α:List Addr)(H:Hp):D→V→Prop
 |non:RelD K α H .non .non
 |bl (b:Bool):RelD K α H (.bl b) (.bl b)
 |int (i:Int):RelD K α H (.int i) (.int i)
 |str (x:Str):RelD K α H (.str x) (.str x)
 |tup {a:Addr} {us:List V} {ds:List D}:VT K α H a us→RelDs K α H ds us→RelD K α H (.tup ds) (.ref a)
 |lst {a:Addr} {us:List V} {ds:List D}:VL K α H a us→RelDs K α H ds us→RelD K α H (.lst ds) (.ref a)
 |scr {a:Addr} {us:List V} {ds:List D}:VS K α H a us→RelDs K α H ds us→RelD K α H (.scr ds) (.ref a)
 |ref {i:Nat} {a:Addr}:α[i]?=some a→RelD K α H (.ref i) (.ref a)
 |exc {a C:Addr} {dx:Option Addr} {cn:Str} {fs:List (Str×Int)}:PySem.W.nsIn K.K mainGlobals cn=some (some (.ref C))→VE K α H a (.ext (xAny C dx a))→XQ K α H dx fs→RelD K α H (.exc cn fs) (.ref a)
inductive RelDs(K:KP)(α:List Addr)(H:Hp):List D→List V→Prop
 |nil:RelDs K α H [] []
 |cons {d:D} {u:V} {ds:List D} {us:List V}:RelD K α H d u→RelDs K α H ds us→RelDs K α H (d :: ds) (u :: us)
end
theorem RelD.map{K K':KP}{α α':List Addr}{H H':Hp}(hK:K'.K=K.K)(hT:∀ a us,VT K α H a us→VT K' α' H' a us)(hL:∀ a us,VL K α H a us→VL K' α' H' a us)(hS:∀ a us,VS K α H a us→VS K' α' H' a us)(hE:∀ a o,VE K α H a o→VE K' α' H' a o)
  (hR:∀ (i:Nat) (a:Addr),α[i]?=some a→α'[i]?=some a) {d:D} {v:V} (r:RelD K α H d v):RelD K' α' H' d v :=
 RelD.rec (motive_1:=fun d v _=>RelD K' α' H' d v) (motive_2:=fun ds us _=>RelDs K' α' H' ds us) .non .bl .int .str (fun t _ r=>.tup (hT _ _ t) r) (fun t _ r=>.lst (hL _ _ t) r) (fun t _ r=>.scr (hS _ _ t) r) (fun h=>.ref (hR _ _ h)) (fun n t r=>.exc (by rw [hK];exact n) (hE _ _ t) (r.map hE)) .nil (fun _ _ r t=>.cons r t) r
theorem RelDs.map{K K':KP}{α α':List Addr}{H H':Hp}(hK:K'.K=K.K)(hT:∀ a us,VT K α H a us→VT K' α' H' a us)(hL:∀ a us,VL K α H a us→VL K' α' H' a us)(hS:∀ a us,VS K α H a us→VS K' α' H' a us)(hE:∀ a o,VE K α H a o→VE K' α' H' a o)
  (hR:∀ (i:Nat) (a:Addr),α[i]?=some a→α'[i]?=some a) {ds:List D} {us:List V} (r:RelDs K α H ds us):RelDs K' α' H' ds us:=by
 induction ds generalizing us with
 |nil=>cases r;exact .nil
 |cons d ds ih=>cases r with | cons h t=>exact .cons (h.map hK hT hL hS hE hR) (ih t)
structure Ext(α:List Addr)(H:Hp)(α':List Addr)(H':Hp):Prop where
 pre:∃ β,α'=α ++ β∧∀ p ∈ β,H p=none
 keep:∀ b o,H b=some o→b ∉ α→H' b=some o
 dom:∀ b,H' b=none→H b=none
theorem Ext.refl(α:List Addr)(H:Hp):Ext α H α H:=⟨⟨[],by simp,fun p h=>nomatch h⟩,fun _ _ h _=>h,fun _ h=>h⟩
theorem Ext.out{α α':List Addr}{H H':Hp}(e:Ext α H α' H'){a:Addr}{o:HO}(h:a ∉ α)(ho:H a=some o):a ∉ α':=by
 obtain ⟨⟨β,rfl,hb⟩,_⟩:=e
 intro z
 rcases List.mem_append.mp z with z | z
 ·exact h z
 ·rw [hb a z] at ho;cases ho
theorem Ext.trans{α α' α'':List Addr}{H H' H'':Hp}(e:Ext α H α' H')(f:Ext α' H' α'' H''):Ext α H α'' H'':=by
 refine ⟨?_,fun b o h n=>f.keep b o (e.keep b o h n) (e.out n h),fun b h=>e.dom b (f.dom b h)⟩
 obtain ⟨⟨β,rfl,hb⟩,k,d⟩:=e
 obtain ⟨⟨γ,rfl,hc⟩,_⟩:=f
 refine ⟨β ++ γ,by simp,fun p hp=>?_⟩
 rcases List.mem_append.mp hp with z | z
 ·exact hb p z
 ·exact d p (hc p z)
theorem Ext.get{α α':List Addr}{H H':Hp}(e:Ext α H α' H'){i:Nat}{a:Addr}(h:α[i]?=some a):α'[i]?=some a:=by
 obtain ⟨⟨β,rfl,_⟩,_⟩:=e
 have hi:i < α.length:=(List.getElem?_eq_some_iff.mp h).1
 rw [List.getElem?_append_left hi];exact h
theorem Ext.new{α:List Addr}{H:Hp}{p:Addr}{o:HO}(h:H p=none):Ext α H α (upd H p o) :=
 ⟨⟨[],by simp,fun p h=>nomatch h⟩,fun b u e _=>by rw [upd_ne (ne_of_none e h)];exact e,fun b e=>by
  by_cases z:b=p
  ·subst z;rw [upd_same] at e;cases e
  ·rw [upd_ne z] at e;exact e⟩
theorem Ext.write{α:List Addr}{H:Hp}{p:Addr}{o:HO}(h:p ∈ α):Ext α H α (upd H p o) :=
 ⟨⟨[],by simp,fun p h=>nomatch h⟩,fun b u e n=>by rw [upd_ne (fun (z:b=p)=>n (by rw [z];exact h))];exact e,fun b e=>by
  by_cases z:b=p
  ·subst z;rw [upd_same] at e;cases e
  ·rw [upd_ne z] at e;exact e⟩
theorem VT.mono{K:KP}{α α':List Addr}{H H':Hp}(e:Ext α H α' H'){a:Addr}{us:List V}(h:VT K α H a us):VT K α' H' a us:=⟨e.out h.1 h.2.2,h.2.1,e.keep _ _ h.2.2 h.1⟩
theorem VS.mono{K:KP}{α α':List Addr}{H H':Hp}(e:Ext α H α' H'){a:Addr}{us:List V}(h:VS K α H a us):VS K α' H' a us:=by
 rcases h with ⟨n,m,h | ⟨o,h⟩⟩ | h
 ·exact .inl ⟨e.out n h,m,.inl (e.keep _ _ h n)⟩
 ·exact .inl ⟨e.out n h,m,.inr ⟨o,e.keep _ _ h n⟩⟩
 ·exact .inr h
theorem VL.mono{K:KP}{α α':List Addr}{H H':Hp}(e:Ext α H α' H'){a:Addr}{us:List V}(h:VL K α H a us):VL K α' H' a us:=⟨e.out h.1 h.2.2,h.2.1,e.keep _ _ h.2.2 h.1⟩
theorem VE.mono{K:KP}{α α':List Addr}{H H':Hp}(e:Ext α H α' H'){a:Addr}{u:HO}(h:VE K α H a u):VE K α' H' a u:=⟨e.out h.1 h.2.2,h.2.1,e.keep _ _ h.2.2 h.1⟩
theorem RelD.mono{K:KP}{α α':List Addr}{H H':Hp}(e:Ext α H α' H'){d:D}{v:V}(r:RelD K α H d v):RelD K α' H' d v:=r.map rfl (fun _ _ t=>t.mono e) (fun _ _ t=>t.mono e) (fun _ _ t=>t.mono e) (fun _ _ t=>t.mono e) (fun _ _ h=>e.get h)
theorem RelDs.mono{K:KP}{α α':List Addr}{H H':Hp}(e:Ext α H α' H'){ds:List D}{us:List V}(r:RelDs K α H ds us):RelDs K α' H' ds us:=r.map rfl (fun _ _ t=>t.mono e) (fun _ _ t=>t.mono e) (fun _ _ t=>t.mono e) (fun _ _ t=>t.mono e) (fun _ _ h=>e.get h)
section
variable {K:KP} {α α':List Addr} {H H':Hp}
theorem RelDs.length:∀ {ds:List D} {us:List V},RelDs K α H ds us→ds.length=us.length
 |_,_,.nil=>rfl
 |_,_,.cons _ t=>by rw [List.length_cons,List.length_cons,RelDs.length t]
theorem RelDs.get:∀ {ds:List D} {us:List V} {i:Nat} {d:D},RelDs K α H ds us→ds[i]?=some d→∃ u,us[i]?=some u∧RelD K α H d u
 |_,_,_,_,.nil,e=>by simp at e
 |_,_,0,_,.cons r _,e=>by simp at e;subst e;exact ⟨_,rfl,r⟩
 |_,_,i + 1,d,.cons _ t,e=>by
  obtain ⟨u,h1,h2⟩:=RelDs.get (i:=i) (d:=d) t (by simpa using e)
  exact ⟨u,by simpa using h1,h2⟩
theorem RelDs.append:∀ {ds es:List D} {us ws:List V},RelDs K α H ds us→RelDs K α H es ws→RelDs K α H (ds ++ es) (us ++ ws)
 |_,_,_,_,.nil,s=>s
 |_,_,_,_,.cons r t,s=>.cons r (RelDs.append t s)
theorem RelDs.take:∀ {ds:List D} {us:List V} (n:Nat),RelDs K α H ds us→RelDs K α H (ds.take n) (us.take n)
 |_,_,0,_=>.nil
 |_,_,_ + 1,.nil=>.nil
 |_,_,n + 1,.cons r t=>.cons r (RelDs.take n t)
theorem RelDs.drop:∀ {ds:List D} {us:List V} (n:Nat),RelDs K α H ds us→RelDs K α H (ds.drop n) (us.drop n)
 |_,_,0,r=>r
 |_,_,_ + 1,.nil=>.nil
 |_,_,n + 1,.cons _ t=>RelDs.drop n t
theorem RelDs.set{d:D}{u:V}(r:RelD K α H d u):∀ {ds:List D} {us:List V} (i:Nat),RelDs K α H ds us→RelDs K α H (ds.set i d) (us.set i u)
 |_,_,_,.nil=>.nil
 |_,_,0,.cons _ t=>.cons r t
 |_,_,i + 1,.cons q t=>.cons q (RelDs.set r i t)
theorem RelDs.snoc{ds:List D}{us:List V}{d:D}{u:V}(r:RelDs K α H ds us)(h:RelD K α H d u):RelDs K α H (ds ++ [d]) (us ++ [u]):=r.append (.cons h .nil)
theorem RelDs.ints:∀ ns:List Int,RelDs K α H (ns.map D.int) (ns.map V.int)
 |[]=>.nil
 |n :: r=>.cons (.int n) (RelDs.ints r)
theorem RelDs.ints_inv{ns:List Int}{us:List V}(r:RelDs K α H (ns.map D.int) us):us=ns.map V.int:=by
 induction ns generalizing us with
 |nil=>cases r;rfl
 |cons n ns ih=>cases r with | cons h t=>cases h;rw [ih t];rfl
theorem RelDs.bls_inv{bs:List Bool}{us:List V}(r:RelDs K α H (bs.map D.bl) us):us=bs.map V.bl:=by
 induction bs generalizing us with
 |nil=>cases r;rfl
 |cons n ns ih=>cases r with | cons h t=>cases h;rw [ih t];rfl
theorem RelDs.inv1{d:D}{us:List V}(h:RelDs K α H [d] us):∃ u,us=[u]∧RelD K α H d u:=by
 cases h with
 |cons r t=>cases t;exact ⟨_,rfl,r⟩
theorem RelDs.inv2{d e:D}{us:List V}(h:RelDs K α H [d,e] us):∃ u v,us=[u,v]∧RelD K α H d u∧RelD K α H e v:=by
 cases h with
 |cons r t =>
  obtain ⟨v,rfl,q⟩:=t.inv1
  exact ⟨_,_,rfl,r,q⟩
end
inductive RelKV(K:KP)(α:List Addr)(H:Hp){κ:Type}:List (κ×D)→List (κ×V)→Prop
 |nil:RelKV K α H [] []
 |cons {k:κ} {d:D} {u:V} {ds:List (κ×D)} {us:List (κ×V)}:RelD K α H d u→RelKV K α H ds us→RelKV K α H ((k,d) :: ds) ((k,u) :: us)
theorem RelKV.mono{K:KP}{α α':List Addr}{H H':Hp}{κ:Type}(e:Ext α H α' H'){ds:List (κ×D)}{us:List (κ×V)}(r:RelKV K α H ds us):RelKV K α' H' ds us:=by
 induction r with
 |nil=>exact .nil
 |cons h t ih=>exact .cons (h.mono e) ih
noncomputable def frzO:Option Obj→HO→HO
 |none,u=>u
 |some o,u=>.frz o u
inductive RelO'(K:KP)(α:List Addr)(H:Hp)(p:Addr):O→Prop
 |lst {xs:List D} {us:List V}:H p=some (.lst us)→RelDs K α H xs us→RelO' K α H p (.lst xs)
 |dT {z:Option Obj} {kvs:List (List Key×D)} {us:List (List Key×V)}:H p=some (frzO z (.dT us))→RelKV K α H kvs us→RelO' K α H p (.dT z kvs)
 |dK {kvs:List (Key×D)} {us:List (Key×V)}:H p=some (.dK us)→RelKV K α H kvs us→RelO' K α H p (.dK kvs)
 |ins {C dx:Addr} {cn:Str} {fs:List (Str×D)} {us:List (Str×V)}:PySem.W.nsIn K.K mainGlobals cn=some (some (.ref C))→H p=some (.ins C dx us)→RelKV K α H fs us→RelO' K α H p (.ins cn fs)
noncomputable def NoT(o:Option HO):Prop:=o ≠ none∧∀ us,o ≠ some (.tup us)
structure HRel(K:KP)(α:List Addr)(H:Hp)(h:List O):Prop where
 len:α.length=h.length
 nd:α.Nodup
 dis:∀ p ∈ K.π,p ∉ α∧NoT (H p)
 obj:∀ (i:Nat) (o:O),h[i]?=some o→∃ p,α[i]?=some p∧RelO' K α H p o
theorem NoT.ext{α α':List Addr}{H H':Hp}{p:Addr}(h:NoT (H p))(e:Ext α H α' H')(n:p ∉ α):NoT (H' p):=by
 cases q:H p with
 |none=>exact absurd q h.1
 |some o =>
  rw [e.keep p o q n]
  rw [q] at h
  exact h
theorem RelO'.mono{K:KP}{α α':List Addr}{H H':Hp}(e:Ext α H α' H'){p:Addr}{o:O}(r:RelO' K α H p o)(k:H' p=H p):RelO' K α' H' p o:=by
 cases r with
 |lst h t=>exact .lst (k.trans h) (t.mono e)
 |dT h t=>exact .dT (k.trans h) (t.mono e)
 |dK h t=>exact .dK (k.trans h) (t.mono e)
 |ins n h t=>exact .ins n (k.trans h) (t.mono e)
section
variable {K:KP} {α α':List Addr} {H H':Hp} {h:List O}
theorem HRel.some_(R:HRel K α H h){p:Addr}(hp:p ∈ α):∃ o,H p=some o:=by
 obtain ⟨i,hi,rfl⟩:=List.getElem_of_mem hp
 have hh:i < h.length:=by rw [← R.len];exact hi
 obtain ⟨q,e,r⟩:=R.obj i h[i] (List.getElem?_eq_getElem hh)
 rw [List.getElem?_eq_getElem hi] at e
 cases e
 generalize h[i]=o at r
 cases r with
 |lst h t=>exact ⟨_,h⟩
 |dT h t=>exact ⟨_,h⟩
 |dK h t=>exact ⟨_,h⟩
 |ins n h t=>exact ⟨_,h⟩
theorem HRel.out(R:HRel K α H h){p:Addr}(hp:H p=none):p ∉ α:=fun z=>by
 obtain ⟨o,e⟩:=R.some_ z
 rw [hp] at e;cases e
theorem HRel.same(R:HRel K α H h)(e:Ext α H α H')(k:∀ p ∈ α,H' p=H p):HRel K α H' h :=
 ⟨R.len,R.nd,fun p hp=>⟨(R.dis p hp).1,(R.dis p hp).2.ext e (R.dis p hp).1⟩,fun i o q=>by
  obtain ⟨p,ep,r⟩:=R.obj i o q
  exact ⟨p,ep,r.mono e (k p (List.mem_of_getElem? ep))⟩⟩
theorem HRel.new(R:HRel K α H h){p:Addr}{o:HO}(hp:H p=none):HRel K α (upd H p o) h :=
 R.same (Ext.new hp) fun q hq=>upd_ne fun z=>R.out hp (z ▸ hq)
theorem HRel.write(R:HRel K α H h){p:Addr}{i:Nat}{o:HO}{u:O}(hp:α[i]?=some p)(r:RelO' K α (upd H p o) p u):HRel K α (upd H p o) (h.set i u):=by
 have hm:=List.mem_of_getElem? hp
 refine ⟨by simp [R.len],R.nd,fun q hq=>⟨(R.dis q hq).1,(R.dis q hq).2.ext (Ext.write (H:=H) (o:=o) hm) (R.dis q hq).1⟩,fun j v q=>?_⟩
 by_cases e:i=j
 ·subst e
  have hi:i < h.length:=by
   have:=(List.getElem?_eq_some_iff.mp q).1
   simpa using this
  rw [List.getElem?_set_self hi] at q
  cases q
  exact ⟨p,hp,r⟩
 ·rw [List.getElem?_set_ne e] at q
  obtain ⟨a,ea,ra⟩:=R.obj j v q
  refine ⟨a,ea,ra.mono (Ext.write hm) (upd_ne fun z=>e ?_)⟩
  subst z
  exact (List.getElem?_inj (List.getElem?_eq_some_iff.mp hp).1 R.nd).mp (hp.trans ea.symm)
theorem HRel.lst(R:HRel K α H h){i:Nat}{xs:List D}(e:h[i]?=some (.lst xs)):∃ p us,α[i]?=some p∧H p=some (.lst us)∧RelDs K α H xs us:=by
 obtain ⟨p,ep,r⟩:=R.obj i _ e
 cases r with
 |lst h t=>exact ⟨p,_,ep,h,t⟩
theorem HRel.dT(R:HRel K α H h){i:Nat}{z:Option Obj}{xs:List (List Key×D)}(e:h[i]?=some (.dT z xs)):∃ p us,α[i]?=some p∧H p=some (frzO z (.dT us))∧RelKV K α H xs us:=by
 obtain ⟨p,ep,r⟩:=R.obj i _ e
 cases r with
 |dT h t=>exact ⟨p,_,ep,h,t⟩
theorem HRel.dK(R:HRel K α H h){i:Nat}{xs:List (Key×D)}(e:h[i]?=some (.dK xs)):∃ p us,α[i]?=some p∧H p=some (.dK us)∧RelKV K α H xs us:=by
 obtain ⟨p,ep,r⟩:=R.obj i _ e
 cases r with
 |dK h t=>exact ⟨p,_,ep,h,t⟩
end
theorem HRel.outP{K:KP}{α:List Addr}{H:Hp}{h:List O}(R:HRel K α H h){p:Addr}(hp:H p=none):p ∉ K.π:=fun z=>(R.dis p z).2.1 hp
structure Priv(D:Addr)(H H':Hp):Prop where
 same:∀ b,b ≠ D→H' b=H b
theorem VT.priv{K:KP}{α:List Addr}{H H':Hp}{D a:Addr}{us:List V}(e:Priv D H H')(hD:D ∈ K.π)(h:VT K α H a us):VT K α H' a us :=
 ⟨h.1,h.2.1,(e.same a fun z=>h.2.1 (z ▸ hD)).trans h.2.2⟩
theorem VS.priv{K:KP}{α:List Addr}{H H':Hp}{D a:Addr}{us:List V}(e:Priv D H H')(hD:D ∈ K.π)(h:VS K α H a us):VS K α H' a us:=by
 rcases h with ⟨n,m,h⟩ | h
 ·have z:a ≠ D:=fun z=>m (z ▸ hD)
  refine .inl ⟨n,m,?_⟩
  unfold Rd at h ⊢
  rw [e.same a z];exact h
 ·exact .inr h
theorem VL.priv{K:KP}{α:List Addr}{H H':Hp}{D a:Addr}{us:List V}(e:Priv D H H')(hD:D ∈ K.π)(h:VL K α H a us):VL K α H' a us :=
 ⟨h.1,h.2.1,(e.same a fun z=>h.2.1 (z ▸ hD)).trans h.2.2⟩
theorem VE.priv{K:KP}{α:List Addr}{H H':Hp}{D a:Addr}{u:HO}(e:Priv D H H')(hD:D ∈ K.π)(h:VE K α H a u):VE K α H' a u :=
 ⟨h.1,h.2.1,(e.same a fun z=>h.2.1 (z ▸ hD)).trans h.2.2⟩
theorem RelD.priv{K:KP}{α:List Addr}{H H':Hp}{D':Addr}(e:Priv D' H H')(hD:D' ∈ K.π){d:D}{v:V}(r:RelD K α H d v):RelD K α H' d v:=r.map rfl (fun _ _ t=>t.priv e hD) (fun _ _ t=>t.priv e hD) (fun _ _ t=>t.priv e hD) (fun _ _ t=>t.priv e hD) (fun _ _ h=>h)
theorem RelDs.priv{K:KP}{α:List Addr}{H H':Hp}{D':Addr}(e:Priv D' H H')(hD:D' ∈ K.π){ds:List D}{us:List V}(r:RelDs K α H ds us):RelDs K α H' ds us:=r.map rfl (fun _ _ t=>t.priv e hD) (fun _ _ t=>t.priv e hD) (fun _ _ t=>t.priv e hD) (fun _ _ t=>t.priv e hD) (fun _ _ h=>h)
theorem RelKV.priv{K:KP}{α:List Addr}{H H':Hp}{D':Addr}{κ:Type}(e:Priv D' H H')(hD:D' ∈ K.π){ds:List (κ×D)}{us:List (κ×V)}(r:RelKV K α H ds us):RelKV K α H' ds us:=by
 induction r with
 |nil=>exact .nil
 |cons h t ih=>exact .cons (h.priv e hD) ih
theorem HRel.priv{K:KP}{α:List Addr}{H H':Hp}{h:List O}{D':Addr}(e:Priv D' H H')(hD:D' ∈ K.π)(hs:NoT (H' D'))(R:HRel K α H h):HRel K α H' h :=
 ⟨R.len,R.nd,fun p hp=>⟨(R.dis p hp).1,by
  by_cases z:p=D'
  ·rw [z];exact hs
  ·rw [e.same p z];exact (R.dis p hp).2⟩,fun i o q=>by
  obtain ⟨p,ep,r⟩:=R.obj i o q
  have z:p ≠ D':=fun z=>(R.dis D' hD).1 (z ▸ List.mem_of_getElem? ep)
  refine ⟨p,ep,?_⟩
  cases r with
  |lst h t=>exact .lst ((e.same p z).trans h) (t.priv e hD)
  |dT h t=>exact .dT ((e.same p z).trans h) (t.priv e hD)
  |dK h t=>exact .dK ((e.same p z).trans h) (t.priv e hD)
  |ins n h t=>exact .ins n ((e.same p z).trans h) (t.priv e hD)⟩
theorem VT.more{K:PySem.W.Frag}{π π':List Addr}{α:List Addr}{H:Hp}{a:Addr}{us:List V}(s:∀ p ∈ π',p ∈ π∨H p=none)(h:VT ⟨K,π⟩ α H a us):VT ⟨K,π'⟩ α H a us :=
 ⟨h.1,fun z=>(s a z).elim h.2.1 (fun w=>by rw [h.2.2] at w;exact nomatch w),h.2.2⟩
theorem VS.more{K:PySem.W.Frag}{π π':List Addr}{α:List Addr}{H:Hp}{a:Addr}{us:List V}(s:∀ p ∈ π',p ∈ π∨H p=none)(h:VS ⟨K,π⟩ α H a us):VS ⟨K,π'⟩ α H a us:=by
 rcases h with ⟨n,m,h⟩ | h
 ·refine .inl ⟨n,fun z=>?_,h⟩
  rcases s a z with z | z
  ·exact m z
  ·rcases h with h | ⟨o,h⟩ <;> rw [z] at h <;> cases h
 ·exact .inr h
theorem VL.more{K:PySem.W.Frag}{π π':List Addr}{α:List Addr}{H:Hp}{a:Addr}{us:List V}(s:∀ p ∈ π',p ∈ π∨H p=none)(h:VL ⟨K,π⟩ α H a us):VL ⟨K,π'⟩ α H a us :=
 ⟨h.1,fun z=>(s a z).elim h.2.1 (fun w=>by rw [h.2.2] at w;exact nomatch w),h.2.2⟩
theorem VE.more{K:PySem.W.Frag}{π π':List Addr}{α:List Addr}{H:Hp}{a:Addr}{u:HO}(s:∀ p ∈ π',p ∈ π∨H p=none)(h:VE ⟨K,π⟩ α H a u):VE ⟨K,π'⟩ α H a u :=
 ⟨h.1,fun z=>(s a z).elim h.2.1 (fun w=>by rw [h.2.2] at w;exact nomatch w),h.2.2⟩
theorem RelD.more{K:PySem.W.Frag}{π π':List Addr}{α:List Addr}{H:Hp}(s:∀ p ∈ π',p ∈ π∨H p=none){d:D}{v:V}(r:RelD ⟨K,π⟩ α H d v):RelD ⟨K,π'⟩ α H d v:=r.map (K:=⟨K,π⟩) (K':=⟨K,π'⟩) rfl (fun _ _ t=>t.more s) (fun _ _ t=>t.more s) (fun _ _ t=>t.more s) (fun _ _ t=>t.more s) (fun _ _ h=>h)
theorem RelDs.more{K:PySem.W.Frag}{π π':List Addr}{α:List Addr}{H:Hp}(s:∀ p ∈ π',p ∈ π∨H p=none){ds:List D}{us:List V}(r:RelDs ⟨K,π⟩ α H ds us):RelDs ⟨K,π'⟩ α H ds us:=r.map (K:=⟨K,π⟩) (K':=⟨K,π'⟩) rfl (fun _ _ t=>t.more s) (fun _ _ t=>t.more s) (fun _ _ t=>t.more s) (fun _ _ t=>t.more s) (fun _ _ h=>h)
theorem RelKV.more{K:PySem.W.Frag}{π π':List Addr}{α:List Addr}{H:Hp}{κ:Type}(s:∀ p ∈ π',p ∈ π∨H p=none){ds:List (κ×D)}{us:List (κ×V)}(r:RelKV ⟨K,π⟩ α H ds us):RelKV ⟨K,π'⟩ α H ds us:=by
 induction r with
 |nil=>exact .nil
 |cons h t ih=>exact .cons (h.more s) ih
theorem HRel.more{K:PySem.W.Frag}{π π':List Addr}{α:List Addr}{H:Hp}{h:List O}(s:∀ p ∈ π',p ∈ π∨H p=none)(d:∀ p ∈ π',p ∉ α∧NoT (H p))(R:HRel ⟨K,π⟩ α H h):HRel ⟨K,π'⟩ α H h :=
 ⟨R.len,R.nd,d,fun i o q=>by
  obtain ⟨p,ep,r⟩:=R.obj i o q
  refine ⟨p,ep,?_⟩
  cases r with
  |lst h t=>exact .lst h (t.more s)
  |dT h t=>exact .dT h (t.more s)
  |dK h t=>exact .dK h (t.more s)
  |ins n h t=>exact .ins n h (t.more s)⟩
noncomputable abbrev Sl:=List (Option D)
noncomputable abbrev Hh:=List O
noncomputable abbrev DK:=D→Hh→Prop
noncomputable abbrev DE:=Sl→Hh→DK→Prop
noncomputable abbrev DT:=Sl→Hh→(Bool→Hh→Prop)→Prop
noncomputable abbrev DA:=Sl→Hh→(List D→Hh→Prop)→Prop
noncomputable abbrev DX:=Str→List (Str×Int)→Hh→Prop
structure DEnds where
 nx:Sl→Hh→Prop
 rt:DK
 bk:Sl→Hh→Prop:=fun _ _=>False
 ct:Sl→Hh→Prop:=fun _ _=>False
 ex:DX:=fun _ _ _=>False
noncomputable abbrev DS:=DEnds→Sl→Hh→Prop
noncomputable abbrev DG:=D→Sl→Hh→(Sl→Hh→Prop)→Prop
noncomputable abbrev DGs:=List D→Sl→Hh→(Sl→Hh→Prop)→Prop
structure RelS(K:KP)(α:List Addr)(H:Hp)(δ:Sl)(σ:St):Prop where
 len:δ.length=σ.length
 get:∀ (i:Nat) (d:D),δ[i]?=some (some d)→∃ v,σ[i]?=some (some v)∧RelD K α H d v
theorem RelS.mono{K:KP}{α α':List Addr}{H H':Hp}{δ:Sl}{σ:St}(e:Ext α H α' H')(r:RelS K α H δ σ):RelS K α' H' δ σ :=
 ⟨r.len,fun i d q=>let ⟨v,h1,h2⟩:=r.get i d q;⟨v,h1,h2.mono e⟩⟩
theorem RelS.set{K:KP}{α:List Addr}{H:Hp}{δ:Sl}{σ:St}{d:D}{v:V}(r:RelS K α H δ σ)(i:Nat)(h:RelD K α H d v):RelS K α H (δ.set i (some d)) (σ.set i (some v)):=by
 refine ⟨by simp [r.len],fun j e q=>?_⟩
 by_cases z:i=j
 ·subst z
  have hi:i < δ.length:=by
   have:=(List.getElem?_eq_some_iff.mp q).1
   simpa using this
  rw [List.getElem?_set_self hi] at q
  cases q
  exact ⟨v,List.getElem?_set_self (by rw [← r.len];exact hi),h⟩
 ·rw [List.getElem?_set_ne z] at q
  obtain ⟨w,h1,h2⟩:=r.get j e q
  exact ⟨w,by rw [List.getElem?_set_ne z];exact h1,h2⟩
inductive LE(K:PySem.W.Frag)(f:DE)(σ:St)(H:Hp)(Q:VK):Prop
 |mk (π:List Addr) (α:List Addr) (δ:Sl) (h:Hh) (Q':DK):HRel ⟨K,π⟩ α H h→RelS ⟨K,π⟩ α H δ σ→f δ h Q'→(∀ d h' α' H' v,Q' d h'→Ext α H α' H'→HRel ⟨K,π⟩ α' H' h'→RelD ⟨K,π⟩ α' H' d v→Q v H')→LE K f σ H Q
inductive LT(K:PySem.W.Frag)(f:DT)(σ:St)(H:Hp)(Q:Bool→Hp→Prop):Prop
 |mk (π:List Addr) (α:List Addr) (δ:Sl) (h:Hh) (Q':Bool→Hh→Prop):HRel ⟨K,π⟩ α H h→RelS ⟨K,π⟩ α H δ σ→f δ h Q'→(∀ b h' α' H',Q' b h'→Ext α H α' H'→HRel ⟨K,π⟩ α' H' h'→Q b H')→LT K f σ H Q
inductive LA(K:PySem.W.Frag)(n:Nat)(f:DA)(σ:St)(H:Hp)(Q:List V→Hp→Prop):Prop
 |mk (π:List Addr) (α:List Addr) (δ:Sl) (h:Hh) (Q':List D→Hh→Prop):HRel ⟨K,π⟩ α H h→RelS ⟨K,π⟩ α H δ σ→f δ h Q'→(∀ ds h' α' H' vs,Q' ds h'→Ext α H α' H'→HRel ⟨K,π⟩ α' H' h'→RelDs ⟨K,π⟩ α' H' ds vs→ds.length=n→Q vs H')→LA K n f σ H Q
structure EndsOk(K:KP)(Ex:XK)(α:List Addr)(H:Hp)(E:DEnds)(F:Ends):Prop where
 nx:∀ δ' h' α' H' σ',E.nx δ' h'→Ext α H α' H'→HRel K α' H' h'→RelS K α' H' δ' σ'→F.nx σ' H'
 rt:∀ d h' α' H' v,E.rt d h'→Ext α H α' H'→HRel K α' H' h'→RelD K α' H' d v→F.rt v H'
 bk:∀ δ' h' α' H' σ',E.bk δ' h'→Ext α H α' H'→HRel K α' H' h'→RelS K α' H' δ' σ'→F.bk σ' H'
 ct:∀ δ' h' α' H' σ',E.ct δ' h'→Ext α H α' H'→HRel K α' H' h'→RelS K α' H' δ' σ'→F.ct σ' H'
 ex:∀ cn fs h' α' H' C dx,E.ex cn fs h'→Ext α H α' H'→HRel K α' H' h'→PySem.W.nsIn K.K mainGlobals cn=some (some (.ref C))→XQ K α' H' dx fs→Ex (.ref C) dx H'
theorem EndsOk.mono{K:KP}{Ex:XK}{α α':List Addr}{H H':Hp}{E:DEnds}{F:Ends}(x:EndsOk K Ex α H E F)(e:Ext α H α' H'):EndsOk K Ex α' H' E F :=
 ⟨fun _ _ _ _ _ a b c d=>x.nx _ _ _ _ _ a (e.trans b) c d,fun _ _ _ _ _ a b c d=>x.rt _ _ _ _ _ a (e.trans b) c d,fun _ _ _ _ _ a b c d=>x.bk _ _ _ _ _ a (e.trans b) c d,fun _ _ _ _ _ a b c d=>x.ct _ _ _ _ _ a (e.trans b) c d,fun _ _ _ _ _ _ _ a b c d=>x.ex _ _ _ _ _ _ _ a (e.trans b) c d⟩
inductive LS(K:PySem.W.Frag)(Ex:XK)(f:DS)(F:Ends)(σ:St)(H:Hp):Prop
 |mk (π:List Addr) (α:List Addr) (δ:Sl) (h:Hh) (E:DEnds):HRel ⟨K,π⟩ α H h→RelS ⟨K,π⟩ α H δ σ→f E δ h→EndsOk ⟨K,π⟩ Ex α H E F→LS K Ex f F σ H
inductive LG(K:PySem.W.Frag)(f:DG)(v:V)(σ:St)(H:Hp)(Q:St→Hp→Prop):Prop
 |mk (π:List Addr) (α:List Addr) (δ:Sl) (h:Hh) (d:D) (Q':Sl→Hh→Prop):HRel ⟨K,π⟩ α H h→RelS ⟨K,π⟩ α H δ σ→RelD ⟨K,π⟩ α H d v→f d δ h Q'→(∀ δ' h' α' H' σ',Q' δ' h'→Ext α H α' H'→HRel ⟨K,π⟩ α' H' h'→RelS ⟨K,π⟩ α' H' δ' σ'→Q σ' H')→LG K f v σ H Q
inductive LGs(K:PySem.W.Frag)(f:DGs)(vs:List V)(σ:St)(H:Hp)(Q:St→Hp→Prop):Prop
 |mk (π:List Addr) (α:List Addr) (δ:Sl) (h:Hh) (ds:List D) (Q':Sl→Hh→Prop):HRel ⟨K,π⟩ α H h→RelS ⟨K,π⟩ α H δ σ→RelDs ⟨K,π⟩ α H ds vs→f ds δ h Q'→(∀ δ' h' α' H' σ',Q' δ' h'→Ext α H α' H'→HRel ⟨K,π⟩ α' H' h'→RelS ⟨K,π⟩ α' H' δ' σ'→Q σ' H')→LGs K f vs σ H Q
theorem HRel.under{K:PySem.W.Frag}{π α:List Addr}{H:Hp}{h:Hh}{p:Addr}{o:HO}(R:HRel ⟨K,π⟩ α H h)(hp:H p=none)(ho:∀ us,o ≠ .tup us:=by intro _ z;cases z):HRel ⟨K,p :: π⟩ α (upd H p o) h:=by
 have s:∀ q ∈ p :: π,q ∈ π∨H q=none:=fun q hq=>by
  rcases List.mem_cons.mp hq with rfl | z
  ·exact .inr hp
  ·exact .inl z
 refine ⟨R.len,R.nd,fun q hq=>?_,fun i ob e=>?_⟩
 ·rcases List.mem_cons.mp hq with rfl | z
  ·exact ⟨R.out hp,by rw [upd_same];exact ⟨(fun z=>by cases z),fun us z=>ho us (Option.some.inj z)⟩⟩
  ·exact ⟨(R.dis q z).1,(R.dis q z).2.ext (Ext.new (α:=α) hp) (R.dis q z).1⟩
 ·obtain ⟨a,ea,r⟩:=R.obj i ob e
  refine ⟨a,ea,?_⟩
  have k:upd H p o a=H a:=upd_ne fun z=>R.out hp (z ▸ List.mem_of_getElem? ea)
  have e2:Ext α H α (upd H p o):=Ext.new hp
  cases r with
  |lst h t=>exact .lst (k.trans h) ((t.more s).mono e2)
  |dT h t=>exact .dT (k.trans h) ((t.more s).mono e2)
  |dK h t=>exact .dK (k.trans h) ((t.more s).mono e2)
  |ins n h t=>exact .ins n (k.trans h) ((t.more s).mono e2)
theorem HRel.less{K:PySem.W.Frag}{π α:List Addr}{H:Hp}{h:Hh}{p:Addr}(R:HRel ⟨K,p :: π⟩ α H h):HRel ⟨K,π⟩ α H h :=
 R.more (fun q hq=>.inl (List.mem_cons_of_mem _ hq)) fun q hq=>R.dis q (List.mem_cons_of_mem _ hq)
theorem RelS.more{K:PySem.W.Frag}{π π' α:List Addr}{H:Hp}{δ:Sl}{σ:L2.St}(s:∀ p ∈ π',p ∈ π∨H p=none)(S:RelS ⟨K,π⟩ α H δ σ):RelS ⟨K,π'⟩ α H δ σ :=
 ⟨S.len,fun i d q=>let ⟨v,a,b⟩:=S.get i d q;⟨v,a,b.more s⟩⟩
theorem RelS.priv{K:KP}{α:List Addr}{H H':Hp}{δ:Sl}{σ:L2.St}{D':Addr}(e:Priv D' H H')(hD:D' ∈ K.π)(S:RelS K α H δ σ):RelS K α H' δ σ :=
 ⟨S.len,fun i d q=>let ⟨v,a,b⟩:=S.get i d q;⟨v,a,b.priv e hD⟩⟩
theorem Ext.grow{α α':List Addr}{H H':Hp}{p:Addr}{o:HO}(e:Ext α H α' H')(hp:H p=none):Ext α H α' (upd H' p o) :=
 ⟨e.pre,fun b u q n=>by rw [upd_ne (ne_of_none q hp)];exact e.keep b u q n,fun b q=>by
  by_cases z:b=p
  ·subst z;exact hp
  ·rw [upd_ne z] at q;exact e.dom b q⟩
theorem VT.adopt{K:PySem.W.Frag}{π α:List Addr}{H:Hp}{p a:Addr}{us:List V}(h:VT ⟨K,p :: π⟩ α H a us):VT ⟨K,π⟩ (α ++ [p]) H a us :=
 ⟨fun z=>(List.mem_append.mp z).elim h.1 fun z=>h.2.1 (by rw [List.mem_singleton.mp z];exact List.mem_cons_self),fun z=>h.2.1 (List.mem_cons_of_mem _ z),h.2.2⟩
theorem VS.adopt{K:PySem.W.Frag}{π α:List Addr}{H:Hp}{p a:Addr}{us:List V}(h:VS ⟨K,p :: π⟩ α H a us):VS ⟨K,π⟩ (α ++ [p]) H a us:=by
 rcases h with ⟨n,m,h⟩ | h
 ·refine .inl ⟨fun z=>?_,fun z=>m (List.mem_cons_of_mem _ z),h⟩
  rcases List.mem_append.mp z with z | z
  ·exact n z
  ·exact m (by rw [List.mem_singleton.mp z];exact List.mem_cons_self)
 ·exact .inr h
theorem VL.adopt{K:PySem.W.Frag}{π α:List Addr}{H:Hp}{p a:Addr}{us:List V}(h:VL ⟨K,p :: π⟩ α H a us):VL ⟨K,π⟩ (α ++ [p]) H a us :=
 ⟨fun z=>(List.mem_append.mp z).elim h.1 fun z=>h.2.1 (by rw [List.mem_singleton.mp z];exact List.mem_cons_self),fun z=>h.2.1 (List.mem_cons_of_mem _ z),h.2.2⟩
theorem VE.adopt{K:PySem.W.Frag}{π α:List Addr}{H:Hp}{p a:Addr}{u:HO}(h:VE ⟨K,p :: π⟩ α H a u):VE ⟨K,π⟩ (α ++ [p]) H a u :=
 ⟨fun z=>(List.mem_append.mp z).elim h.1 fun z=>h.2.1 (by rw [List.mem_singleton.mp z];exact List.mem_cons_self),fun z=>h.2.1 (List.mem_cons_of_mem _ z),h.2.2⟩
theorem get_app{α:List Addr}{p a:Addr}{i:Nat}(h:α[i]?=some a):(α ++ [p])[i]?=some a:=by
 rw [List.getElem?_append_left (List.getElem?_eq_some_iff.mp h).1];exact h
theorem RelD.adopt{K:PySem.W.Frag}{π α:List Addr}{H:Hp}{p:Addr}{d:D}{v:V}(r:RelD ⟨K,p :: π⟩ α H d v):RelD ⟨K,π⟩ (α ++ [p]) H d v:=r.map (K:=⟨K,p :: π⟩) (K':=⟨K,π⟩) (α':=α ++ [p]) (H':=H) rfl (fun _ _ t=>t.adopt) (fun _ _ t=>t.adopt) (fun _ _ t=>t.adopt) (fun _ _ t=>t.adopt) (fun _ _ h=>get_app h)
theorem RelDs.adopt{K:PySem.W.Frag}{π α:List Addr}{H:Hp}{p:Addr}{ds:List D}{us:List V}(r:RelDs ⟨K,p :: π⟩ α H ds us):RelDs ⟨K,π⟩ (α ++ [p]) H ds us:=r.map (K:=⟨K,p :: π⟩) (K':=⟨K,π⟩) (α':=α ++ [p]) (H':=H) rfl (fun _ _ t=>t.adopt) (fun _ _ t=>t.adopt) (fun _ _ t=>t.adopt) (fun _ _ t=>t.adopt) (fun _ _ h=>get_app h)
theorem RelKV.adopt{K:PySem.W.Frag}{π α:List Addr}{H:Hp}{p:Addr}{κ:Type}{ds:List (κ×D)}{us:List (κ×V)}(r:RelKV ⟨K,p :: π⟩ α H ds us):RelKV ⟨K,π⟩ (α ++ [p]) H ds us:=by
 induction r with
 |nil=>exact .nil
 |cons h t ih=>exact .cons h.adopt ih
theorem HRel.adopt{K:PySem.W.Frag}{π α:List Addr}{H:Hp}{h:Hh}{p:Addr}{u:O}(R:HRel ⟨K,p :: π⟩ α H h)(np:p ∉ π)(r:RelO' ⟨K,π⟩ (α ++ [p]) H p u):HRel ⟨K,π⟩ (α ++ [p]) H (h ++ [u]):=by
 have hp:=R.dis p List.mem_cons_self
 refine ⟨by simp [R.len],?_,fun q hq=>⟨fun z=>?_,(R.dis q (List.mem_cons_of_mem _ hq)).2⟩,fun i v q=>?_⟩
 ·rw [List.nodup_append]
  exact ⟨R.nd,by simp,fun a ha b hb=>by rw [List.mem_singleton.mp hb];exact fun z=>hp.1 (z ▸ ha)⟩
 ·rcases List.mem_append.mp z with z | z
  ·exact (R.dis q (List.mem_cons_of_mem _ hq)).1 z
  ·rw [List.mem_singleton.mp z] at hq;exact np hq
 ·by_cases hi:i < h.length
  ·rw [List.getElem?_append_left hi] at q
   obtain ⟨a,ea,ra⟩:=R.obj i v q
   refine ⟨a,get_app ea,?_⟩
   cases ra with
   |lst h t=>exact .lst h t.adopt
   |dT h t=>exact .dT h t.adopt
   |dK h t=>exact .dK h t.adopt
   |ins n h t=>exact .ins n h t.adopt
  ·have hi':i=h.length:=by
    have:=(List.getElem?_eq_some_iff.mp q).1
    rw [List.length_append,List.length_singleton] at this;omega
   subst hi'
   rw [List.getElem?_append_right (Nat.le_refl _)] at q
   simp at q;subst q
   exact ⟨p,by rw [List.getElem?_append_right (by rw [R.len];exact Nat.le_refl _),R.len];simp,r⟩
theorem Ext.adopt{α α':List Addr}{H H':Hp}{p:Addr}(e:Ext α H α' H')(hp:H p=none):Ext α H (α' ++ [p]) H':=by
 refine ⟨?_,e.keep,e.dom⟩
 obtain ⟨⟨β,rfl,hb⟩,_⟩:=e
 exact ⟨β ++ [p],by simp,fun q hq=>by
  rcases List.mem_append.mp hq with z | z
  ·exact hb q z
  ·rw [List.mem_singleton.mp z];exact hp⟩
section
variable (X:Cx)
noncomputable def SE(e:Expr)(f:DE):Prop:=PE X e (LE X.K f)
noncomputable def ST(e:Expr)(f:DT):Prop:=PT X e (LT X.K f)
noncomputable def SW(e:Expr)(f:DT):Prop:=PW X e (LT X.K f)
noncomputable def SA(es:List Expr)(n:Nat)(f:DA):Prop:=PA X es (LA X.K n f)
noncomputable def SS(s:Stmt)(f:DS):Prop:=PS X s (LS X.K X.ex9 f)
noncomputable def SSs(ss:List Stmt)(f:DS):Prop:=PSs X ss (LS X.K X.ex9 f)
noncomputable def SG(t:Expr)(f:DG):Prop:=PG X t (LG X.K f)
noncomputable def SGs(ts:List Expr)(f:DGs):Prop:=PGs X ts (LGs X.K f)
end
section
variable {X:Cx}
theorem PE.imp{e:Expr}{t t':TE}(h:PE X e t)(k:∀ σ H Q,t' σ H Q→t σ H Q):PE X e t':=fun pins s σ H Q I q=>h pins s σ H Q I (k σ H Q q)
theorem PT.imp{e:Expr}{t t':TT}(h:PT X e t)(k:∀ σ H Q,t' σ H Q→t σ H Q):PT X e t':=fun pins s σ H Q I q=>h pins s σ H Q I (k σ H Q q)
theorem PW.imp{e:Expr}{t t':TT}(h:PW X e t)(k:∀ σ H Q,t' σ H Q→t σ H Q):PW X e t':=fun wh pins s σ H Q I q=>h wh pins s σ H Q I (k σ H Q q)
theorem PA.imp{es:List Expr}{t t':TA}(h:PA X es t)(k:∀ σ H Q,t' σ H Q→t σ H Q):PA X es t':=fun pos pins s σ H Q I q=>h pos pins s σ H Q I (k σ H Q q)
theorem PS.imp{e:Stmt}{t t':TS}(h:PS X e t)(k:∀ F σ H,t' F σ H→t F σ H):PS X e t':=fun pins s σ H F I q=>h pins s σ H F I (k F σ H q)
theorem PSs.imp{e:List Stmt}{t t':TS}(h:PSs X e t)(k:∀ F σ H,t' F σ H→t F σ H):PSs X e t':=fun pins s σ H F I q=>h pins s σ H F I (k F σ H q)
theorem PG.imp{e:Expr}{t t':TG}(h:PG X e t)(k:∀ v σ H Q,t' v σ H Q→t v σ H Q):PG X e t':=fun pins s σ H v u Q I r q=>h pins s σ H v u Q I r (k v σ H Q q)
theorem PGs.imp{e:List Expr}{t t':TGs}(h:PGs X e t)(k:∀ v σ H Q,t' v σ H Q→t v σ H Q):PGs X e t':=fun pins s σ H v u Q I r q=>h pins s σ H v u Q I r (k v σ H Q q)
end
end DL
namespace DL
open PySem PySem.Spec L2
noncomputable def dVar(i:Nat):DE:=fun δ h Q=>match δ[i]? with | some (some d)=>Q d h | _=>False
noncomputable def dC(d:D):DE:=fun _ h Q=>Q d h
noncomputable abbrev P1:=D→Hh→DK→Prop
noncomputable abbrev P2:=D→D→Hh→DK→Prop
noncomputable abbrev PN:=List D→Hh→DK→Prop
noncomputable def dUn(p:P1)(a:DE):DE:=fun δ h Q=>a δ h fun x h1=>p x h1 Q
noncomputable def dOp(p:P2)(a b:DE):DE:=fun δ h Q=>a δ h fun x h1=>b δ h1 fun y h2=>p x y h2 Q
inductive r1(K:PySem.W.Frag)(p:P1)(x:V)(H:Hp)(Q:VK):Prop
 |mk (π:List Addr) (α:List Addr) (h:Hh) (d:D) (Q':DK):HRel ⟨K,π⟩ α H h→RelD ⟨K,π⟩ α H d x→p d h Q'→(∀ d h' α' H' v,Q' d h'→Ext α H α' H'→HRel ⟨K,π⟩ α' H' h'→RelD ⟨K,π⟩ α' H' d v→Q v H')→r1 K p x H Q
inductive r2(K:PySem.W.Frag)(p:P2)(x y:V)(H:Hp)(Q:VK):Prop
 |mk (π:List Addr) (α:List Addr) (h:Hh) (d e:D) (Q':DK):HRel ⟨K,π⟩ α H h→RelD ⟨K,π⟩ α H d x→RelD ⟨K,π⟩ α H e y→p d e h Q'→(∀ d h' α' H' v,Q' d h'→Ext α H α' H'→HRel ⟨K,π⟩ α' H' h'→RelD ⟨K,π⟩ α' H' d v→Q v H')→r2 K p x y H Q
inductive rN(K:PySem.W.Frag)(p:PN)(xs:List V)(H:Hp)(Q:VK):Prop
 |mk (π:List Addr) (α:List Addr) (h:Hh) (ds:List D) (Q':DK):HRel ⟨K,π⟩ α H h→RelDs ⟨K,π⟩ α H ds xs→p ds h Q'→(∀ d h' α' H' v,Q' d h'→Ext α H α' H'→HRel ⟨K,π⟩ α' H' h'→RelD ⟨K,π⟩ α' H' d v→Q v H')→rN K p xs H Q
section
variable {K:PySem.W.Frag} {σ:L2.St} {H:Hp} {Q:VK}
theorem un_lift{p:P1}{fa:DE}(g:LE K (dUn p fa) σ H Q):LE K fa σ H fun x H1=>r1 K p x H1 Q:=by
 obtain ⟨π,α,δ,h,Q',R,S,f,k⟩:=g
 exact ⟨π,α,δ,h,_,R,S,f,fun x h1 α1 H1 v1 f1 e1 R1 q1=>⟨π,α1,h1,x,Q',R1,q1,f1,fun d h' α' H' v a b c d'=>k d h' α' H' v a (e1.trans b) c d'⟩⟩
theorem op_lift{p:P2}{fa fb:DE}(g:LE K (dOp p fa fb) σ H Q):LE K fa σ H fun x H1=>LE K fb σ H1 fun y H2=>r2 K p x y H2 Q:=by
 obtain ⟨π,α,δ,h,Q',R,S,f,k⟩:=g
 refine ⟨π,α,δ,h,_,R,S,f,fun x h1 α1 H1 v1 f1 e1 R1 q1=>?_⟩
 refine ⟨π,α1,δ,h1,_,R1,S.mono e1,f1,fun y h2 α2 H2 v2 f2 e2 R2 q2=>?_⟩
 exact ⟨π,α2,h2,x,y,Q',R2,q1.mono e2,q2,f2,fun d h' α' H' v a b c d'=>k d h' α' H' v a (e1.trans (e2.trans b)) c d'⟩
end
theorem OpR.imp{X:Cx}{f:Value→Value→Sem Value}{r r':R2}(h:OpR X f r)(k:∀ x y H Q,r' x y H Q→r x y H Q):OpR X f r':=fun pins s σ H x y v u Q I rx ry q=>h pins s σ H x y v u Q I rx ry (k x y H Q q)
theorem UnR.imp{X:Cx}{f:Value→Sem Value}{r r':V→Hp→VK→Prop}(h:UnR X f r)(k:∀ x H Q,r' x H Q→r x H Q):UnR X f r':=fun pins s σ H x v Q I rx q=>h pins s σ H x v Q I rx (k x H Q q)
theorem IxR.imp{X:Cx}{r r':R2}(h:IxR X r)(k:∀ x y H Q,r' x y H Q→r x y H Q):IxR X r':=fun va sl pins s σ H x y v u Q I rx ry q=>h va sl pins s σ H x y v u Q I rx ry (k x y H Q q)
theorem CallR.imp{X:Cx}{f:Value}{r r':List V→Hp→VK→Prop}(h:CallR X f r)(k:∀ x H Q,r' x H Q→r x H Q):CallR X f r':=fun pins s σ H xs us Q I rx q=>h pins s σ H xs us Q I rx (k xs H Q q)
noncomputable def lsOf(h:Hh):D→Option (List D)
 |.lst xs=>some xs
 |.scr xs=>some xs
 |.ref i=>match h[i]? with | some (.lst xs)=>some xs | _=>none
 |_=>none
section
variable {K:KP} {α:List Addr} {H:Hp} {h:Hh}
theorem lsOf_sq(R:HRel K α H h):∀ {d:D} {v:V} {xs:List D},RelD K α H d v→lsOf h d=some xs→∃ p us,v = .ref p∧SqL K.K H p us∧RelDs K α H xs us
 |_,_,_,.lst t r,e=>by cases e;exact ⟨_,_,rfl,t.sq,r⟩
 |_,_,_,.scr t r,e=>by cases e;exact ⟨_,_,rfl,t.sq,r⟩
 |_,_,xs,.ref (i:=i) hp,e=>by
  have e:(match h[i]? with | some (.lst xs)=>some xs | _=>none)=some xs:=e
  cases q:h[i]? with
  |none=>rw [q] at e;cases e
  |some o =>
   rw [q] at e
   cases o with
   |lst ys =>
    cases e
    obtain ⟨p,us,e1,e2,e3⟩:=R.lst q
    rw [hp] at e1;cases e1
    exact ⟨_,us,rfl,SqL.of e2,e3⟩
   |_=>cases e
 |_,_,_,.non,e=>nomatch e
 |_,_,_,.bl _,e=>nomatch e
 |_,_,_,.int _,e=>nomatch e
 |_,_,_,.str _,e=>nomatch e
 |_,_,_,.tup _ _,e=>nomatch e
theorem tup_sq{d:List D}{v:V}(r:RelD K α H (.tup d) v):∃ p us,v = .ref p∧SqT K.K H p us∧RelDs K α H d us:=by
 cases r with
 |tup t r=>exact ⟨_,_,rfl,t.sq,r⟩
end
section
variable {X:Cx} {a b c e:Expr} {fa fb fc:DE} {pos:Pos}
theorem sv(i:Nat){x:Str}{pos:Pos}(hN:X.N[i]?=some x:=by rfl)(hv:Vis X.env.scope x:=by trivial)(hd:(x == ("__debug__":Str))=false:=by decide)
  (hcd:(x == ("__classdict__":Str))=false:=by decide):SE X (.Name x pos) (dVar i):=PE.imp (pe_var hN hv hd hcd) fun σ H Q ⟨π,α,δ,h,Q',R,S,f,k⟩=>by
 unfold dVar at f
 split at f
 ·rename_i d e
  obtain ⟨v,h1,h2⟩:=S.get i d e
  exact ⟨v,h1,k d h α H v f (Ext.refl ..) R h2⟩
 ·exact f.elim
theorem sc_lift{v:V}{d:D}(r:∀ π α H,RelD ⟨X.K,π⟩ α H d v)(h:PE X e (tC v)):SE X e (dC d):=PE.imp h fun σ H Q ⟨π,α,δ,h,Q',R,S,f,k⟩=>k d h α H v f (Ext.refl ..) R (r π α H)
theorem se_int{i j pos}:SE X (.Constant (.int i) j pos) (dC (.int i)):=sc_lift (fun _ _ _=>.int i) pe_int
theorem se_bl{i j pos}:SE X (.Constant (.bool i) j pos) (dC (.bl i)):=sc_lift (fun _ _ _=>.bl i) pe_bl
theorem se_str{i j pos}:SE X (.Constant (.str i) j pos) (dC (.str i)):=sc_lift (fun _ _ _=>.str i) pe_str
theorem se_globI{x:Str}{i:Int}(hg:Gl X x)(hm:∃ t,X.mg x=some (.int i t))(hd:(x == ("__debug__":Str))=false:=by decide):SE X (.Name x pos) (dC (.int i)):=by
 obtain ⟨t,hm⟩:=hm
 exact sc_lift (fun _ _ _=>.int i) (pe_glob hg hm ⟨t,rfl⟩ hd)
theorem se_op{op:Operator}{p:P2}(ho:OpR X (binaryOp op) (r2 X.K p))(ha:SE X a fa)(hb:SE X b fb):SE X (.BinOp a op b pos) (dOp p fa fb):=PE.imp (pe_op ho ha hb) fun _ _ _ g=>op_lift g
theorem se_un{op:UnaryOp}{p:P1}(ho:UnR X (unaryOp op) (r1 X.K p))(ha:SE X a fa):SE X (.UnaryOp op a pos) (dUn p fa):=PE.imp (pe_un ho ha) fun _ _ _ g=>un_lift g
theorem se_ix{p:P2}(ho:IxR X (r2 X.K p))(ha:SE X a fa)(hb:SE X b fb)(hs:PlainIx b):SE X (.Subscript a b pos) (dOp p fa fb):=PE.imp (pe_ix ho ha hb hs) fun _ _ _ g=>op_lift g
theorem se_cmp{op:CmpOp}{p:P2}(ho:OpR X (compareOp op) (r2 X.K p))(ha:SE X a fa)(hb:SE X b fb)(hm:behindInMarks op b=false):SE X (.Compare a [op] [b] pos) (dOp p fa fb):=PE.imp (pe_cmpR ho ha hb hm) fun _ _ _ g=>op_lift g
noncomputable def dTst(f:DE):DT:=fun δ h Q=>f δ h fun d h'=>match d with | .bl b=>Q b h' | _=>False
theorem tst_lift{K:PySem.W.Frag}{f:DE}{σ:L2.St}{H:Hp}{Q:Bool→Hp→Prop}(g:LT K (dTst f) σ H Q):LE K f σ H fun x H'=>∃ k,x = .bl k∧Q k H':=by
 obtain ⟨π,α,δ,h,Q',R,S,f,k⟩:=g
 refine ⟨π,α,δ,h,_,R,S,f,fun d h1 α1 H1 v1 f1 e1 R1 q1=>?_⟩
 cases q1 with
 |bl b=>exact ⟨b,rfl,k b h1 α1 H1 f1 e1 R1⟩
 |_=>exact f1.elim
theorem st_cmp{op:CmpOp}{p:P2}(ho:OpR X (compareOp op) (r2 X.K p))(ha:SE X a fa)(hb:SE X b fb)(hm:behindInMarks op b=false):ST X (.Compare a [op] [b] pos) (dTst (dOp p fa fb)):=PT.imp (pt_cmpR ho ha hb hm) fun _ _ _ g=>by
 obtain ⟨π,α,δ,h,Q',R,S,f,k⟩:=tst_lift g
 exact op_lift (Q:=fun x H'=>∃ k,x = .bl k∧_) ⟨π,α,δ,h,Q',R,S,f,k⟩
noncomputable def dChain(p q:P2)(a b c:DE):DE:=fun δ h Q=>a δ h fun x h1=>b δ h1 fun y h2=>p x y h2 fun z h3=>match z with
 |.bl k=>if k=true then c δ h3 fun w h4=>q y w h4 Q else Q (.bl false) h3
 |_=>False
theorem chain_lift{K:PySem.W.Frag}{p q:P2}{σ:L2.St}{H:Hp}{Q:VK}(g:LE K (dChain p q fa fb fc) σ H Q):tChain (r2 K p) (r2 K q) (LE K fa) (LE K fb) (LE K fc) σ H Q:=by
 obtain ⟨π,α,δ,h,Q',R,S,f,k⟩:=g
 refine ⟨π,α,δ,h,_,R,S,f,fun x h1 α1 H1 v1 f1 e1 R1 q1=>?_⟩
 refine ⟨π,α1,δ,h1,_,R1,S.mono e1,f1,fun y h2 α2 H2 v2 f2 e2 R2 q2=>?_⟩
 refine ⟨π,α2,h2,x,y,_,R2,q1.mono e2,q2,f2,fun z h3 α3 H3 v3 f3 e3 R3 q3=>?_⟩
 cases q3 with
 |bl b =>
  refine ⟨b,rfl,?_⟩
  cases b with
  |false=>exact iteF (k _ _ _ _ _ (by simpa using f3) (e1.trans (e2.trans e3)) R3 (.bl false))
  |true =>
   have f3:fc δ h3 fun w h4=>q y w h4 Q':=by simpa using f3
   refine iteT ⟨π,α3,δ,h3,_,R3,S.mono (e1.trans (e2.trans e3)),f3,fun w h4 α4 H4 v4 f4 e4 R4 q4=>?_⟩
   exact ⟨π,α4,h4,y,w,Q',R4,q2.mono (e3.trans e4),q4,f4,fun d h' α' H' v a b c d'=>k d h' α' H' v a (e1.trans (e2.trans (e3.trans (e4.trans b)))) c d'⟩
 |_=>exact f3.elim
theorem se_chain{op op':CmpOp}{p q:P2}(ho:OpR X (compareOp op) (r2 X.K p))(ho':OpR X (compareOp op') (r2 X.K q))(ha:SE X a fa)(hb:SE X b fb)(hc:SE X c fc)
  (hm:lastMarks [op,op'] [b,c]=false:=by with_unfolding_all rfl):SE X (.Compare a [op,op'] [b,c] pos) (dChain p q fa fb fc):=PE.imp (pe_chain ho ho' ha hb hc hm) fun _ _ _ g=>chain_lift g
theorem st_chain{op op':CmpOp}{p q:P2}(ho:OpR X (compareOp op) (r2 X.K p))(ho':OpR X (compareOp op') (r2 X.K q))(ha:SE X a fa)(hb:SE X b fb)(hc:SE X c fc)
  (hm:lastMarks [op,op'] [b,c]=false:=by with_unfolding_all rfl):ST X (.Compare a [op,op'] [b,c] pos) (dTst (dChain p q fa fb fc)):=PT.imp (pt_chain ho ho' ha hb hc hm) fun _ _ _ g=>by
 obtain ⟨π,α,δ,h,Q',R,S,f,k⟩:=tst_lift g
 exact chain_lift (Q:=fun x H'=>∃ k,x = .bl k∧_) ⟨π,α,δ,h,Q',R,S,f,k⟩
noncomputable def trD(h:Hh):D→Option Bool
 |.non=>some false
 |.bl b=>some b
 |.int i=>some (i != 0)
 |.str x=>if x.length ≤ 16777216 then some ((x.length:Int) != 0) else none
 |.tup xs=>some (!xs.isEmpty)
 |.lst xs=>some (!xs.isEmpty)
 |.scr xs=>some (!xs.isEmpty)
 |.ref i=>match h[i]? with | some (.lst xs)=>some (!xs.isEmpty) | _=>none
 |.exc _ _=>none
noncomputable def dTr(f:DE):DT:=fun δ h Q=>f δ h fun d h'=>match trD h' d with | some b=>Q b h' | none=>False
theorem isEmpty_rel{K:KP}{α:List Addr}{H:Hp}{ds:List D}{us:List V}(r:RelDs K α H ds us):ds.isEmpty=us.isEmpty:=by cases r <;> rfl
theorem tr_ok{K:KP}{α:List Addr}{H:Hp}{h:Hh}(R:HRel K α H h){d:D}{v:V}{k:Bool}(r:RelD K α H d v)(e:trD h d=some k):TruV K.K v H k:=by
 cases r with
 |non=>cases e;exact rfl
 |bl b=>cases e;exact rfl
 |int i=>cases e;exact rfl
 |str x =>
  have e:(if x.length ≤ 16777216 then some ((x.length:Int) != 0) else none)=some k:=e
  split at e
  ·rename_i hl
   cases e
   exact ⟨by rw [sizeLine_eq];exact hl,rfl⟩
  ·cases e
 |tup t r=>cases e;exact .inr (.inl ⟨_,t.sq,by rw [isEmpty_rel r]⟩)
 |lst t r=>cases e;exact .inl ⟨_,t.sq,by rw [isEmpty_rel r]⟩
 |scr t r=>cases e;exact .inl ⟨_,t.sq,by rw [isEmpty_rel r]⟩
 |exc _ _ _=>cases e
 |@ref i a hp =>
  have e:(match h[i]? with | some (.lst xs)=>some (!xs.isEmpty) | _=>none)=some k:=e
  cases q:h[i]? with
  |none=>rw [q] at e;cases e
  |some o =>
   rw [q] at e
   cases o with
   |lst ys =>
    cases e
    obtain ⟨p,us,e1,e2,e3⟩:=R.lst q
    rw [hp] at e1;cases e1
    exact .inl ⟨us,SqL.of e2,by rw [isEmpty_rel e3]⟩
   |_=>cases e
theorem st_truth(ha:SE X a fa)(he:∀ whole,isTrue a X.env whole=(do let v ← whole;standAt a.pos;holding [v] (truthy v)):=by intro _;rfl):ST X a (dTr fa):=PT.imp (pt_truth ha he) fun σ H Q zz0=>by
 obtain ⟨π,α,δ,h,Q',R,S,f,k⟩:=zz0
 refine ⟨π,α,δ,h,_,R,S,f,fun d h1 α1 H1 v1 f1 e1 R1 q1=>?_⟩
 cases q:trD h1 d with
 |none=>rw [q] at f1;exact f1.elim
 |some b=>rw [q] at f1;exact ⟨b,tr_ok R1 q1 q,k b h1 α1 H1 f1 e1 R1⟩
noncomputable def dAnd(t u:DT):DT:=fun δ h Q=>t δ h fun c h1=>if c=true then u δ h1 Q else Q false h1
noncomputable def dOr(t u:DT):DT:=fun δ h Q=>t δ h fun c h1=>if c=true then Q true h1 else u δ h1 Q
noncomputable def dNot(t:DT):DT:=fun δ h Q=>t δ h fun c h1=>Q (!c) h1
variable {ga gb:DT} {rest:List Expr}
theorem sw_and1(ha:ST X a ga):SW X (.BoolOp .And [a] pos) ga:=pw_and1 ha
theorem sw_or1(ha:ST X a ga):SW X (.BoolOp .Or [a] pos) ga:=pw_or1 ha
theorem sw_and(ha:ST X a ga)(hb:SW X (.BoolOp .And (b :: rest) pos) gb):SW X (.BoolOp .And (a :: b :: rest) pos) (dAnd ga gb):=PW.imp (pw_and ha hb) fun σ H Q zz0=>by
 obtain ⟨π,α,δ,h,Q',R,S,f,k⟩:=zz0
 refine ⟨π,α,δ,h,_,R,S,f,fun c h1 α1 H1 f1 e1 R1=>?_⟩
 cases c with
 |true=>exact iteT ⟨π,α1,δ,h1,Q',R1,S.mono e1,by simpa using f1,fun b h' α' H' a e c=>k b h' α' H' a (e1.trans e) c⟩
 |false=>exact iteF (k false h1 α1 H1 (by simpa using f1) e1 R1)
theorem sw_or(ha:ST X a ga)(hb:SW X (.BoolOp .Or (b :: rest) pos) gb):SW X (.BoolOp .Or (a :: b :: rest) pos) (dOr ga gb):=PW.imp (pw_or ha hb) fun σ H Q zz0=>by
 obtain ⟨π,α,δ,h,Q',R,S,f,k⟩:=zz0
 refine ⟨π,α,δ,h,_,R,S,f,fun c h1 α1 H1 f1 e1 R1=>?_⟩
 cases c with
 |true=>exact iteT (k true h1 α1 H1 (by simpa using f1) e1 R1)
 |false=>exact iteF ⟨π,α1,δ,h1,Q',R1,S.mono e1,by simpa using f1,fun b h' α' H' a e c=>k b h' α' H' a (e1.trans e) c⟩
theorem st_w(h:SW X e ga):ST X e ga:=PW.pt h
theorem st_not(ha:ST X a ga):ST X (.UnaryOp .Not a pos) (dNot ga):=PT.imp (pt_not ha) fun σ H Q ⟨π,α,δ,h,Q',R,S,f,k⟩=>⟨π,α,δ,h,_,R,S,f,fun c h1 α1 H1 f1 e1 R1=>k (!c) h1 α1 H1 f1 e1 R1⟩
noncomputable def dAndV(a b:DE):DE:=fun δ h Q=>a δ h fun x h1=>match x with | .bl k=>if k=true then b δ h1 Q else Q (.bl false) h1 | _=>False
noncomputable def dOrV(a b:DE):DE:=fun δ h Q=>a δ h fun x h1=>match x with | .bl k=>if k=true then Q (.bl true) h1 else b δ h1 Q | _=>False
noncomputable def dNotV(a:DE):DE:=fun δ h Q=>a δ h fun x h1=>match x with | .bl b=>Q (.bl (!b)) h1 | _=>False
theorem se_one{op}(h:SE X a fa):SE X (.BoolOp op [a] pos) fa:=pe_one h
theorem se_and(ha:SE X a fa)(hb:SE X (.BoolOp .And (b :: rest) pos) fb):SE X (.BoolOp .And (a :: b :: rest) pos) (dAndV fa fb):=PE.imp (pe_and ha hb) fun σ H Q zz0=>by
 obtain ⟨π,α,δ,h,Q',R,S,f,k⟩:=zz0
 refine ⟨π,α,δ,h,_,R,S,f,fun x h1 α1 H1 v1 f1 e1 R1 q1=>?_⟩
 cases q1 with
 |bl c =>
  refine ⟨c,rfl,?_⟩
  cases c with
  |true=>exact iteT ⟨π,α1,δ,h1,Q',R1,S.mono e1,by simpa using f1,fun d h' α' H' v a e c d'=>k d h' α' H' v a (e1.trans e) c d'⟩
  |false=>exact iteF (k _ h1 α1 H1 _ (by simpa using f1) e1 R1 (.bl false))
 |_=>exact f1.elim
theorem se_or(ha:SE X a fa)(hb:SE X (.BoolOp .Or (b :: rest) pos) fb):SE X (.BoolOp .Or (a :: b :: rest) pos) (dOrV fa fb):=PE.imp (pe_or ha hb) fun σ H Q zz0=>by
 obtain ⟨π,α,δ,h,Q',R,S,f,k⟩:=zz0
 refine ⟨π,α,δ,h,_,R,S,f,fun x h1 α1 H1 v1 f1 e1 R1 q1=>?_⟩
 cases q1 with
 |bl c =>
  refine ⟨c,rfl,?_⟩
  cases c with
  |true=>exact iteT (k _ h1 α1 H1 _ (by simpa using f1) e1 R1 (.bl true))
  |false=>exact iteF ⟨π,α1,δ,h1,Q',R1,S.mono e1,by simpa using f1,fun d h' α' H' v a e c d'=>k d h' α' H' v a (e1.trans e) c d'⟩
 |_=>exact f1.elim
noncomputable def dIf(t:DT)(a b:DE):DE:=fun δ h Q=>t δ h fun c h1=>if c=true then a δ h1 Q else b δ h1 Q
theorem se_if(hc:ST X c ga)(ha:SE X a fa)(hb:SE X b fb):SE X (.IfExp c a b pos) (dIf ga fa fb):=PE.imp (pe_ifExp hc ha hb) fun σ H Q zz0=>by
 obtain ⟨π,α,δ,h,Q',R,S,f,k⟩:=zz0
 refine ⟨π,α,δ,h,_,R,S,f,fun c h1 α1 H1 f1 e1 R1=>?_⟩
 cases c with
 |true=>exact iteT ⟨π,α1,δ,h1,Q',R1,S.mono e1,by simpa using f1,fun d h' α' H' v a e c d'=>k d h' α' H' v a (e1.trans e) c d'⟩
 |false=>exact iteF ⟨π,α1,δ,h1,Q',R1,S.mono e1,by simpa using f1,fun d h' α' H' v a e c d'=>k d h' α' H' v a (e1.trans e) c d'⟩
noncomputable def dNil:DA:=fun _ h Q=>Q [] h
noncomputable def dCons(a:DE)(r:DA):DA:=fun δ h Q=>a δ h fun x h1=>r δ h1 fun xs h2=>Q (x :: xs) h2
variable {es:List Expr} {n:Nat} {fs:DA}
theorem sa_nil:SA X [] 0 dNil:=PA.imp pa_nil fun σ H Q ⟨π,α,δ,h,Q',R,S,f,k⟩=>k [] h α H [] f (Ext.refl ..) R .nil rfl
theorem sa_cons(ha:SE X e fa)(hr:SA X es n fs)(hs:starEach (e :: es) X.env=(false,eval e X.env) :: starEach es X.env:=by rfl):SA X (e :: es) (n + 1) (dCons fa fs):=PA.imp (pa_cons ha hr hs) fun σ H Q zz0=>by
 obtain ⟨π,α,δ,h,Q',R,S,f,k⟩:=zz0
 refine ⟨π,α,δ,h,_,R,S,f,fun x h1 α1 H1 v1 f1 e1 R1 q1=>?_⟩
 refine ⟨π,α1,δ,h1,_,R1,S.mono e1,f1,fun ds h2 α2 H2 vs f2 e2 R2 q2 l2=>?_⟩
 exact k (x :: ds) h2 α2 H2 (v1 :: vs) f2 (e1.trans e2) R2 (.cons (q1.mono e2) q2) (by rw [List.length_cons,l2])
noncomputable def dTup(f:DA):DE:=fun δ h Q=>f δ h fun ds h1=>Q (.tup ds) h1
theorem se_tup{x1}(hf:SA X es n fs)(hn:n ≤ sizeLine:=by decide):SE X (.Tuple es x1 pos) (dTup fs):=PE.imp (pe_tup hf) fun σ H Q zz0=>by
 obtain ⟨π,α,δ,h,Q',R,S,f,k⟩:=zz0
 refine ⟨π,α,δ,h,_,R,S,f,fun ds h1 α1 H1 vs f1 e1 R1 q1 l1=>⟨by rw [← q1.length,l1];exact hn,fun p hp=>?_⟩⟩
 have e2:Ext α1 H1 α1 (upd H1 p (.tup vs)):=Ext.new hp
 exact k (.tup ds) h1 α1 _ _ f1 (e1.trans e2) (R1.new hp) (.tup ⟨R1.out hp,R1.outP hp,upd_same⟩ (q1.mono e2))
noncomputable abbrev DN:=Sl→Hh→(List D→Hh→Prop)→Prop
inductive LN(K:PySem.W.Frag)(f:DN)(σ:St)(H:Hp)(Q:VK):Prop
 |mk (π:List Addr) (α:List Addr) (δ:Sl) (h:Hh) (Q':List D→Hh→Prop):HRel ⟨K,π⟩ α H h→RelS ⟨K,π⟩ α H δ σ→f δ h Q'→(∀ ds h' α' H' us p,Q' ds h'→Ext α H α' H'→HRel ⟨K,p :: π⟩ α' H' h'→RelDs ⟨K,p :: π⟩ α' H' ds us→H' p=some (.lst us)→H p=none→p ∉ π→Q (.ref p) H')→LN K f σ H Q
theorem LN.last{K:PySem.W.Frag}{π α α':List Addr}{H H':Hp}{h h':Hh}{Q:VK}{Q':List D→Hh→Prop}(k:∀ ds h' α' H' us p,Q' ds h'→Ext α H α' H'→HRel ⟨K,p :: π⟩ α' H' h'→RelDs ⟨K,p :: π⟩ α' H' ds us→H' p=some (.lst us)→H p=none→p ∉ π→Q (.ref p) H')
  {ds:List D} {us:List V} {p:Addr} (f:Q' ds h') (e:Ext α H α' H') (R:HRel ⟨K,π⟩ α' H' h') (r:RelDs ⟨K,π⟩ α' H' ds us) (hp:H' p=none):Q (.ref p) (upd H' p (.lst us)):=by
 have e2:Ext α' H' α' (upd H' p (.lst us)):=Ext.new hp
 refine k ds h' α' _ us p f (e.trans e2) (R.under hp) ((r.more fun q hq=>?_).mono e2) upd_same (e.dom p hp) (R.outP hp)
 rcases List.mem_cons.mp hq with rfl | z
 ·exact .inr hp
 ·exact .inl z
noncomputable def SN(X:Cx)(e:Expr)(f:DN):Prop:=PE X e (LN X.K f)
noncomputable def dV(f:DN):DE:=fun δ h Q=>f δ h fun ds h'=>Q (.lst ds) h'
noncomputable def dTk(f:DN):DE:=fun δ h Q=>f δ h fun ds h'=>Q (.ref h'.length) (h' ++ [.lst ds])
variable {fn:DN}
theorem se_v(hf:SN X e fn):SE X e (dV fn):=PE.imp hf fun σ H Q zz0=>by
 obtain ⟨π,α,δ,h,Q',R,S,f,k⟩:=zz0
 refine ⟨π,α,δ,h,_,R,S,f,fun ds h1 α1 H1 us p f1 e1 R1 q1 hus hp np=>?_⟩
 exact k (.lst ds) h1 α1 _ _ f1 e1 R1.less (.lst ⟨(R1.dis p List.mem_cons_self).1,np,hus⟩ (q1.more fun q hq=>.inl (List.mem_cons_of_mem _ hq)))
theorem se_t(hf:SN X e fn):SE X e (dTk fn):=PE.imp hf fun σ H Q zz0=>by
 obtain ⟨π,α,δ,h,Q',R,S,f,k⟩:=zz0
 refine ⟨π,α,δ,h,_,R,S,f,fun ds h1 α1 H1 us p f1 e1 R1 q1 hus hp np=>?_⟩
 refine k (.ref h1.length) (h1 ++ [.lst ds]) (α1 ++ [p]) _ _ f1 (e1.adopt hp) (R1.adopt np (.lst hus q1.adopt)) (.ref ?_)
 rw [← R1.len];simp
theorem sn_lst(hf:SA X es n fs)(hn:n ≤ sizeLine:=by decide):SN X (.List es pos) fs:=PE.imp (pe_lst hf) fun σ H Q zz0=>by
 obtain ⟨π,α,δ,h,Q',R,S,f,k⟩:=zz0
 refine ⟨π,α,δ,h,_,R,S,f,fun ds h1 α1 H1 vs f1 e1 R1 q1 l1=>⟨by rw [← q1.length,l1];exact hn,fun p hp=>?_⟩⟩
 exact LN.last (h:=h) k f1 e1 R1 q1 hp
end
end DL
namespace DL
open PySem PySem.Spec L2
section
variable {X:Cx}
noncomputable def pI(C:Int→Int→Prop)(g:Int→Int→Int):P2:=fun x y h Q=>match x,y with | .int i,.int j=>C i j∧Q (.int (g i j)) h | _,_=>False
noncomputable def pI0(g:Int→Int→Int):P2:=fun x y h Q=>match x,y with | .int i,.int j=>Q (.int (g i j)) h | _,_=>False
noncomputable def pB0(g:Int→Int→Bool):P2:=fun x y h Q=>match x,y with | .int i,.int j=>Q (.bl (g i j)) h | _,_=>False
theorem pI_ok{f:Value→Value→Sem Value}{C:Int→Int→Prop}{g:Int→Int→Int}(h:OpR X f (rI C fun i j=>.int (g i j))):OpR X f (r2 X.K (pI C g)):=OpR.imp h fun x y H Q zz0=>by
 obtain ⟨π,α,h,d,e,Q',R,r1,r2,f,k⟩:=zz0
 cases r1 with
 |int i =>
  cases r2 with
  |int j=>exact ⟨i,j,rfl,rfl,f.1,k _ h α H _ f.2 (Ext.refl ..) R (.int _)⟩
  |_=>exact f.elim
 |_=>exact f.elim
theorem pI0_ok{f:Value→Value→Sem Value}{g:Int→Int→Int}(h:OpR X f (rI0 fun i j=>.int (g i j))):OpR X f (r2 X.K (pI0 g)):=OpR.imp h fun x y H Q zz0=>by
 obtain ⟨π,α,h,d,e,Q',R,r1,r2,f,k⟩:=zz0
 cases r1 with
 |int i =>
  cases r2 with
  |int j=>exact ⟨i,j,rfl,rfl,k _ h α H _ f (Ext.refl ..) R (.int _)⟩
  |_=>exact f.elim
 |_=>exact f.elim
theorem pB0_ok{f:Value→Value→Sem Value}{g:Int→Int→Bool}(h:OpR X f (rI0 fun i j=>.bl (g i j))):OpR X f (r2 X.K (pB0 g)):=OpR.imp h fun x y H Q zz0=>by
 obtain ⟨π,α,h,d,e,Q',R,r1,r2,f,k⟩:=zz0
 cases r1 with
 |int i =>
  cases r2 with
  |int j=>exact ⟨i,j,rfl,rfl,k _ h α H _ f (Ext.refl ..) R (.bl _)⟩
  |_=>exact f.elim
 |_=>exact f.elim
noncomputable abbrev pSub:P2:=pI0 fun i j=>i - j
noncomputable abbrev pDiv:P2:=pI (fun _ j=>0 < j∧j < 2 ^ 100) fun i j=>i / j
noncomputable abbrev pMod:P2:=pI (fun _ j=>0 < j) fun i j=>i % j
noncomputable abbrev pPow:P2:=pI CPow fun i j=>i ^ j.toNat
noncomputable abbrev pShl:P2:=pI CPow fun i j=>i * 2 ^ j.toNat
noncomputable abbrev pShr:P2:=pI (fun _ j=>0 ≤ j) fun i j=>i / 2 ^ j.toNat
noncomputable abbrev pBand:P2:=pI0 fun i j=>Builtin.bitAnd i j
noncomputable abbrev pBor:P2:=pI0 fun i j=>Builtin.bitOr i j
noncomputable abbrev pLtI:P2:=pB0 fun i j=>decide (i < j)
noncomputable abbrev pLe:P2:=pB0 fun i j=>decide (i ≤ j)
noncomputable abbrev pGe:P2:=pB0 fun i j=>decide (j ≤ i)
theorem ok_sub:OpR X (binaryOp .Sub) (r2 X.K pSub):=pI0_ok op_sub
theorem op_fdivB:OpR X (binaryOp .FloorDiv) (rI (fun _ j=>0 < j∧j < 2 ^ 100) fun i j=>.int (i / j)):=opI fun i j _ _ _ _ _ hc q=>by
 have e:i.fdiv j=i / j:=Int.fdiv_eq_ediv_of_nonneg i (by omega)
 refine PyProof.Rows.floordiv_int (by omega) (by rw [e];exact q) (.inl (PyProof.noPylong_of_log2 ?_))
 have h1:j.natAbs ≠ 0:=by omega
 rw [Nat.log2_lt h1]
 have h2:j.natAbs < 2 ^ 100:=by
  have:=hc.2
  omega
 exact Nat.lt_of_lt_of_le h2 (Nat.pow_le_pow_right (by decide) (by decide))
theorem ok_div:OpR X (binaryOp .FloorDiv) (r2 X.K pDiv):=pI_ok op_fdivB
theorem ok_mod:OpR X (binaryOp .Mod) (r2 X.K pMod):=pI_ok op_mod
theorem ok_pow:OpR X (binaryOp .Pow) (r2 X.K pPow):=pI_ok op_pow
theorem ok_shl:OpR X (binaryOp .LShift) (r2 X.K pShl):=pI_ok op_shl
theorem ok_shr:OpR X (binaryOp .RShift) (r2 X.K pShr):=pI_ok op_shr
theorem ok_band:OpR X (binaryOp .BitAnd) (r2 X.K pBand):=pI0_ok op_and
theorem ok_bor:OpR X (binaryOp .BitOr) (r2 X.K pBor):=pI0_ok op_or
theorem ok_le:OpR X (compareOp .LtE) (r2 X.K pLe):=pB0_ok op_le
theorem ok_ge:OpR X (compareOp .GtE) (r2 X.K pGe):=pB0_ok op_ge
theorem ok_ltI:OpR X (compareOp .Lt) (r2 X.K pLtI):=pB0_ok op_lt
theorem iok_add:OpR X (inplaceOp .Add) (r2 X.K (pI0 fun i j=>i + j)):=pI0_ok iop_add
theorem iok_or:OpR X (inplaceOp .BitOr) (r2 X.K pBor):=pI0_ok iop_or
noncomputable def pAdd:P2:=fun x y h Q=>match x,y with
 |.int i,.int j=>Q (.int (i + j)) h
 |.str a,.str b=>a.length + b.length ≤ 16777216∧Q (.str (a ++ b)) h
 |.tup a,.tup b=>a ≠ []∧a.length + b.length ≤ 16777216∧Q (.tup (a ++ b)) h
 |_,_=>False
theorem ok_add:OpR X (binaryOp .Add) (r2 X.K pAdd):=OpR.imp (op_add.or (op_add_str.or op_catT)) fun x y H Q zz0=>by
 obtain ⟨π,α,h,d,e,Q',R,r1,r2,f,k⟩:=zz0
 cases r1 with
 |int i =>
  cases r2 with
  |int j=>exact .inl ⟨i,j,rfl,rfl,k _ h α H _ f (Ext.refl ..) R (.int _)⟩
  |_=>exact f.elim
 |str i =>
  cases r2 with
  |str j=>exact .inr (.inl ⟨i,j,rfl,rfl,by rw [sizeLine_eq];exact f.1,k _ h α H _ f.2 (Ext.refl ..) R (.str _)⟩)
  |_=>exact f.elim
 |@tup a us ds t r =>
  cases r2 with
  |@tup a' us' ds' t' r' =>
   obtain ⟨f1,f2,f3⟩:=f
   have l1:=r.length
   have l2:=r'.length
   refine .inr (.inr ⟨a,a',us,us',rfl,rfl,t.sq,t'.sq,?_,by rw [sizeLine_eq,← l1,← l2];exact f2,fun z=>?_,fun z p hp=>?_⟩)
   ·intro z
    subst z
    cases r;exact f1 rfl
   ·subst z
    cases r'
    rw [List.append_nil] at f3
    exact k _ h α H _ f3 (Ext.refl ..) R (.tup t r)
   ·have e2:Ext α H α (upd H p (.tup (us ++ us'))):=Ext.new hp
    exact k _ h α _ _ f3 e2 (R.new hp) (.tup ⟨R.out hp,R.outP hp,upd_same⟩ ((r.append r').mono e2))
  |_=>exact f.elim
 |_=>exact f.elim
noncomputable def pNeg:P1:=fun x h Q=>match x with | .int i=>Q (.int (-i)) h | _=>False
theorem ok_neg:UnR X (unaryOp .USub) (r1 X.K pNeg):=UnR.imp un_neg fun x H Q zz0=>by
 obtain ⟨π,α,h,d,Q',R,r1,f,k⟩:=zz0
 cases r1 with
 |int i=>exact ⟨i,rfl,k _ h α H _ f (Ext.refl ..) R (.int _)⟩
 |_=>exact f.elim
noncomputable def isNon:D→Bool | .non=>true | _=>false
noncomputable def pIs(neg:Bool):P2:=fun x y h Q=>match y with | .non=>Q (.bl (if neg then !isNon x else isNon x)) h | _=>False
theorem atI_rel{K:KP}{α:List Addr}{H:Hp}{ds:List D}{us:List V}{i:Int}{d:D}(r:RelDs K α H ds us)(e:atI ds i=some d):∃ u,atI us i=some u∧RelD K α H d u:=by
 unfold atI at e ⊢
 rw [← r.length]
 cases q:ixN ds.length i with
 |none=>rw [q] at e;cases e
 |some j =>
  rw [q] at e
  exact r.get e
noncomputable def seqOf(h:Hh):D→Option (List D)
 |.lst xs=>some xs
 |.scr xs=>some xs
 |.tup xs=>some xs
 |.ref i=>match h[i]? with | some (.lst xs)=>some xs | _=>none
 |_=>none
theorem seqOf_sq{K:KP}{α:List Addr}{H:Hp}{h:Hh}(R:HRel K α H h){d:D}{v:V}{xs:List D}(r:RelD K α H d v)(e:seqOf h d=some xs):∃ p us,v = .ref p∧(SqL K.K H p us∨SqT K.K H p us)∧RelDs K α H xs us:=by
 by_cases z:∃ ys,d = .tup ys
 ·obtain ⟨ys,rfl⟩:=z
  cases e
  obtain ⟨p,us,a,b,c⟩:=tup_sq r
  exact ⟨p,us,a,.inr b,c⟩
 ·have e':lsOf h d=some xs:=by
   cases d with
   |tup ys=>exact absurd ⟨ys,rfl⟩ z
   |lst ys=>exact e
   |scr ys=>exact e
   |ref i=>exact e
   |_=>cases e
  obtain ⟨p,us,a,b,c⟩:=lsOf_sq R r e'
  exact ⟨p,us,a,.inl b,c⟩
noncomputable def strAt(x:Str)(i:Int):Option D:=if x.length ≤ 16777216 then (atI x.cps.toList i).map fun c=>.str ⟨#[c]⟩ else none
noncomputable def ixD(h:Hh)(x y:D):Option D:=match y with
 |.int i=>match x with
  |.tup xs=>atI xs i
  |.lst xs=>atI xs i
  |.scr xs=>atI xs i
  |.ref j=>match h[j]? with | some (.lst xs)=>atI xs i | _=>none
  |.str s=>strAt s i
  |_=>none
 |_=>none
noncomputable def pIx:P2:=fun x y h Q=>match ixD h x y with | some d=>Q d h | none=>False
theorem ok_ix:IxR X (r2 X.K pIx):=IxR.imp ix_seq fun x y H Q zz0=>by
 obtain ⟨π,α,h,d,e,Q',R,r1,r2,f,k⟩:=zz0
 unfold pIx at f
 cases q:ixD h d e with
 |none=>rw [q] at f;exact f.elim
 |some z =>
  rw [q] at f
  cases r2 with
  |int i =>
   cases r1 with
   |@tup a us ds t r =>
    obtain ⟨u,e1,e2⟩:=atI_rel r q
    exact .inr (.inl ⟨_,us,i,u,rfl,rfl,t.sq,e1,k _ h α H _ f (Ext.refl ..) R e2⟩)
   |@lst a us ds t r =>
    obtain ⟨u,e1,e2⟩:=atI_rel r q
    exact .inl ⟨_,us,i,u,rfl,rfl,t.sq,e1,k _ h α H _ f (Ext.refl ..) R e2⟩
   |@scr a us ds t r =>
    obtain ⟨u,e1,e2⟩:=atI_rel r q
    exact .inl ⟨_,us,i,u,rfl,rfl,t.sq,e1,k _ h α H _ f (Ext.refl ..) R e2⟩
   |@ref j a hp =>
    have q:(match h[j]? with | some (.lst xs)=>atI xs i | _=>none)=some z:=q
    cases w:h[j]? with
    |none=>rw [w] at q;cases q
    |some o =>
     rw [w] at q
     cases o with
     |lst ys =>
      obtain ⟨p,us,e1,e2,e3⟩:=R.lst w
      rw [hp] at e1;cases e1
      obtain ⟨u,e4,e5⟩:=atI_rel e3 q
      exact .inl ⟨_,us,i,u,rfl,rfl,SqL.of e2,e4,k _ h α H _ f (Ext.refl ..) R e5⟩
     |_=>cases q
   |str s =>
    have q:strAt s i=some z:=q
    unfold strAt at q
    split at q
    ·rename_i hl
     cases w:atI s.cps.toList i with
     |none=>rw [w] at q;cases q
     |some c =>
      rw [w] at q
      cases q
      exact .inr (.inr ⟨s,i,c,rfl,rfl,by rw [sizeLine_eq];exact hl,w,k _ h α H _ f (Ext.refl ..) R (.str _)⟩)
    ·cases q
   |_=>cases q
  |_=>cases q
end
noncomputable def cutD(xs:List D)(lo hi:Option Int):List D:=(xs.drop (HT.sIx xs.length 0 lo)).take (HT.sIx xs.length xs.length hi - HT.sIx xs.length 0 lo)
theorem cut_rel{K:KP}{α:List Addr}{H:Hp}{ds:List D}{us:List V}(r:RelDs K α H ds us)(lo hi:Option Int):RelDs K α H (cutD ds lo hi) (cutV us lo hi):=by
 unfold cutD cutV
 rw [r.length]
 exact (r.drop _).take _
noncomputable abbrev DO:=Sl→Hh→(Option Int→Hh→Prop)→Prop
noncomputable def dNoPart:DO:=fun _ h Q=>Q none h
noncomputable def dPart(f:DE):DO:=fun δ h Q=>f δ h fun d h1=>match d with | .int i=>Q (some i) h1 | _=>False
inductive LO(K:PySem.W.Frag)(f:DO)(σ:St)(H:Hp)(Q:Option Int→Hp→Prop):Prop
 |mk (π:List Addr) (α:List Addr) (δ:Sl) (h:Hh) (Q':Option Int→Hh→Prop):HRel ⟨K,π⟩ α H h→RelS ⟨K,π⟩ α H δ σ→f δ h Q'→(∀ i h' α' H',Q' i h'→Ext α H α' H'→HRel ⟨K,π⟩ α' H' h'→Q i H')→LO K f σ H Q
noncomputable def SO(X:Cx)(e:Option Expr)(f:DO):Prop:=PO X e (LO X.K f)
section
variable {X:Cx} {e:Expr} {fe:DE} {lo hi:Option Expr} {fl fh:DO} {pos p2:Pos}
theorem PO.imp{o:Option Expr}{t t':TO}(h:PO X o t)(k:∀ σ H Q,t' σ H Q→t σ H Q):PO X o t':=fun pins s σ H Q I q=>h pins s σ H Q I (k σ H Q q)
theorem so_none:SO X none dNoPart:=PO.imp po_none fun σ H Q ⟨π,α,δ,h,Q',R,S,f,k⟩=>k none h α H f (Ext.refl ..) R
theorem so_some(h:SE X e fe):SO X (some e) (dPart fe):=PO.imp (po_some h) fun σ H Q zz0=>by
 obtain ⟨π,α,δ,h,Q',R,S,f,k⟩:=zz0
 refine ⟨π,α,δ,h,_,R,S,f,fun d h1 α1 H1 v1 f1 e1 R1 q1=>?_⟩
 cases q1 with
 |int i=>exact ⟨i,rfl,k (some i) h1 α1 H1 f1 e1 R1⟩
 |_=>exact f1.elim
noncomputable def rSlD(K:PySem.W.Frag):V→Option Int→Option Int→Hp→VK→Prop:=fun x lo hi H Q=>∃ a xs,x = .ref a∧SqT K H a xs∧(cutV xs lo hi=xs→Q (.ref a) H)∧∀ p,H p=none→Q (.ref p) (upd H p (.tup (cutV xs lo hi)))
theorem sl_tupD:SlR X (rSlD X.K):=by
 intro pins s σ H x v vl vu lo hi sl Q I rx hs pl pu h
 obtain ⟨a,xs,rfl,hx,q1,q2⟩:=h
 by_cases hw:HT.sIx xs.length 0 lo=0∧HT.sIx xs.length xs.length hi=xs.length
 ·cases rx
  obtain ⟨its,r,ht,hz⟩:=I.tuple hx
  have hlen:its.toArray.size=xs.length:=by rw [List.size_toArray];exact r.length.symm
  refine ⟨"tuple",_,PyProof.Rows.slot_tuple_getitem.lookup,ht.typeIs,?_⟩
  have ec:cutV xs lo hi=xs:=by
   unfold cutV
   rw [hw.1,hw.2,List.drop_zero,Nat.sub_zero,List.take_length]
  exact HT.getItem_tuple_all ht hs pl pu (by rw [hlen];exact hw) ⟨.ref a,H,I,rfl,q1 ec⟩
 ·exact sl_tup pins s σ H (.ref a) v vl vu lo hi sl Q I rx hs pl pu ⟨a,xs,rfl,hx,hw,fun p hp=>q2 p hp⟩
noncomputable def dSlL(fe:DE)(fl fh:DO):DN:=fun δ h Q=>fe δ h fun d h1=>fl δ h1 fun l h2=>fh δ h2 fun u h3=>match lsOf h3 d with | some xs=>Q (cutD xs l u) h3 | none=>False
end
end DL
namespace DL
open PySem PySem.Spec L2
noncomputable def dName(i:Nat):DG:=fun d δ h Q=>Q (δ.set i (some d)) h
noncomputable def dGNil:DGs:=fun ds δ h Q=>match ds with | []=>Q δ h | _=>False
noncomputable def dGCons(t:DG)(u:DGs):DGs:=fun ds δ h Q=>match ds with | d :: r=>t d δ h fun δ' h'=>u r δ' h' Q | []=>False
noncomputable def dUnp(n:Nat)(t:DGs):DG:=fun d δ h Q=>match d with | .tup xs=>xs.length=n∧t xs δ h Q | _=>False
section
variable {X:Cx} {pos:Pos}
theorem sg_name{i:Nat}{x:Str}(hN:X.N.Nodup)(hi:X.N[i]?=some x)(hx:Loc X.env.scope x)(hf:X.fn x=true∨X.env.scope.names.lookup x=some .local:=by trivial):SG X (.Name x pos) (dName i):=PG.imp (pg_name hN hi hx hf) fun v σ H Q ⟨π,α,δ,h,d,Q',R,S,r,f,k⟩ =>
 k _ h α H _ f (Ext.refl ..) R (S.set i r)
theorem sgs_nil:SGs X [] dGNil:=PGs.imp pgs_nil fun vs σ H Q zz0=>by
 obtain ⟨π,α,δ,h,ds,Q',R,S,r,f,k⟩:=zz0
 cases r with
 |nil=>exact ⟨rfl,k δ h α H σ f (Ext.refl ..) R S⟩
 |cons _ _=>exact f.elim
theorem sgs_cons{e:Expr}{es:List Expr}{t:DG}{u:DGs}(h1:SG X e t)(h2:SGs X es u)(hs:(assignEach (e :: es) X.env).map (·.2)=assign e X.env :: (assignEach es X.env).map (·.2):=by rfl):SGs X (e :: es) (dGCons t u):=PGs.imp (pgs_cons h1 h2 hs) fun vs σ H Q zz0=>by
 obtain ⟨π,α,δ,h,ds,Q',R,S,r,f,k⟩:=zz0
 cases r with
 |nil=>exact f.elim
 |@cons d v ds us rd rs =>
  refine ⟨v,us,rfl,π,α,δ,h,d,_,R,S,rd,f,fun δ1 h1 α1 H1 σ1 f1 e1 R1 S1=>?_⟩
  exact ⟨π,α1,δ1,h1,ds,Q',R1,S1,rs.mono e1,f1,fun δ' h' α' H' σ' a b c d'=>k δ' h' α' H' σ' a (e1.trans b) c d'⟩
theorem sg_tup{es:List Expr}{j:Nat}{t:DGs}{n:Nat}(hc:X.calm=true)(h:SGs X es t)(hn:(assignEach es X.env).length=n:=by rfl)(hst:(assignEach es X.env).findIdx? (·.1)=none:=by rfl):SG X (.Tuple es j pos) (dUnp n t):=PG.imp (pg_tup hc h hn hst) fun v σ H Q zz0=>by
 obtain ⟨π,α,δ,h,d,Q',R,S,r,f,k⟩:=zz0
 cases r with
 |@tup a us ds t rs=>exact ⟨a,us,rfl,t.sq,by rw [← rs.length];exact f.1,π,α,δ,h,ds,Q',R,S,rs,f.2,k⟩
 |_=>exact f.elim
noncomputable def setD(o i v:D)(h:Hh)(Q:Hh→Prop):Prop:=match o,i with
 |.ref j,.int k=>match h[j]? with
  |some (.lst xs)=>match ixN xs.length k with
   |some m=>Q (h.set j (.lst (xs.set m v)))
   |none=>False
  |_=>False
 |_,_=>False
noncomputable def dSubL(fo fi:DE):DG:=fun v δ h Q=>fo δ h fun o h1=>fi δ h1 fun i h2=>setD o i v h2 fun h3=>Q δ h3
theorem set_lift{K:PySem.W.Frag}{π α:List Addr}{H:Hp}{h:Hh}{o i v:D}{ov iv vv:V}{Q':Hh→Prop}{Q:Hp→Prop}(R:HRel ⟨K,π⟩ α H h)(ro:RelD ⟨K,π⟩ α H o ov)(ri:RelD ⟨K,π⟩ α H i iv)(rv:RelD ⟨K,π⟩ α H v vv)(f:setD o i v h Q')
  (k:∀ h' H',Q' h'→Ext α H α H'→HRel ⟨K,π⟩ α H' h'→Q H'):rSetL ov iv vv H Q:=by
 unfold setD at f
 cases ro with
 |@ref j a hp =>
  cases ri with
  |int n =>
   dsimp only at f
   cases w:h[j]? with
   |none=>rw [w] at f;exact f.elim
   |some ob =>
    rw [w] at f
    cases ob with
    |lst xs =>
     dsimp only at f
     obtain ⟨p,us,e1,e2,e3⟩:=R.lst w
     rw [hp] at e1;cases e1
     cases q:ixN xs.length n with
     |none=>rw [q] at f;exact f.elim
     |some m =>
      rw [q] at f
      have e4:Ext α H α (upd H a (.lst (us.set m vv))):=Ext.write (List.mem_of_getElem? hp)
      refine ⟨a,us,n,m,rfl,rfl,e2,by rw [← e3.length];exact q,k _ _ f e4 (R.write hp (.lst upd_same ((RelDs.set rv m e3).mono e4)))⟩
    |_=>exact f.elim
  |_=>exact f.elim
 |_=>exact f.elim
end
noncomputable def dNext:DS:=fun E δ h=>E.nx δ h
noncomputable def dSeq(f g:DS):DS:=fun E δ h=>f { E with nx:=g E } δ h
noncomputable def dNever:DS:=fun _ _ _=>False
noncomputable def dBreak:DS:=fun E δ h=>E.bk δ h
noncomputable def dCont:DS:=fun E δ h=>E.ct δ h
noncomputable def dDrop(f:DE):DS:=fun E δ h=>f δ h fun _ h1=>E.nx δ h1
noncomputable def dRet(f:DE):DS:=fun E δ h=>f δ h E.rt
noncomputable def dRetN:DS:=fun E _ h=>E.rt .non h
noncomputable def dIfS(t:DT)(f g:DS):DS:=fun E δ h=>t δ h fun c h1=>if c=true then f E δ h1 else g E δ h1
noncomputable def dAsg(f:DE)(g:DG):DS:=fun E δ h=>f δ h fun x h1=>g x δ h1 E.nx
noncomputable def dAug(i:Nat)(f:DE)(p:P2):DS:=fun E δ h=>match δ[i]? with | some (some x)=>f δ h fun y h1=>p x y h1 fun z h2=>E.nx (δ.set i (some z)) h2 | _=>False
section
variable {X:Cx} {s:Stmt} {ss:List Stmt} {f g:DS} {e:Expr} {fe:DE} {pos:Pos}
theorem seq_lift{K:PySem.W.Frag}{Ex:XK}{F:Ends}{σ:L2.St}{H:Hp}(w:LS K Ex (dSeq f g) F σ H):tSeq (LS K Ex f) (LS K Ex g) F σ H:=by
 obtain ⟨π,α,δ,h,E,R,S,q,k⟩:=w
 exact ⟨π,α,δ,h,{ E with nx:=g E },R,S,q,⟨fun δ' h' α' H' σ' a b c d=>⟨π,α',δ',h',E,c,d,a,k.mono b⟩,k.rt,k.bk,k.ct,k.ex⟩⟩
theorem ss_nil:SSs X [] dNext:=PSs.imp pss_nil fun F σ H ⟨π,α,δ,h,E,R,S,q,k⟩=>k.nx δ h α H σ q (Ext.refl ..) R S
theorem ss_one(h:SS X s f):SSs X [s] f:=pss_one h
theorem ss_cons(h1:SS X s f)(h2:SSs X ss g):SSs X (s :: ss) (dSeq f g):=PSs.imp (pss_cons h1 h2) fun _ _ _ w=>seq_lift w
theorem s_never:SS X s dNever:=PS.imp ps_never fun F σ H ⟨π,α,δ,h,E,R,S,q,k⟩=>q.elim
theorem s_expr(he:SE X e fe)(hs:swapsWith e none pos.line X.env=pure false:=by rfl):SS X (.Expr e pos) (dDrop fe):=PS.imp (ps_expr he hs) fun F σ H ⟨π,α,δ,h,E,R,S,q,k⟩ =>
 ⟨π,α,δ,h,_,R,S,q,fun d h1 α1 H1 v1 f1 e1 R1 q1=>k.nx δ h1 α1 H1 σ f1 e1 R1 (S.mono e1)⟩
theorem s_ret(he:SE X e fe):SS X (.Return (some e) pos) (dRet fe):=PS.imp (ps_ret he) fun F σ H ⟨π,α,δ,h,E,R,S,q,k⟩=>⟨π,α,δ,h,_,R,S,q,fun d h1 α1 H1 v1 f1 e1 R1 q1=>k.rt d h1 α1 H1 v1 f1 e1 R1 q1⟩
theorem s_if{c:Expr}{a b:List Stmt}{t:DT}(hc:ST X c t)(ha:SSs X a f)(hb:SSs X b g):SS X (.If c a b pos) (dIfS t f g):=PS.imp (ps_if hc ha hb) fun F σ H zz0=>by
 obtain ⟨π,α,δ,h,E,R,S,q,k⟩:=zz0
 refine ⟨π,α,δ,h,_,R,S,q,fun c h1 α1 H1 f1 e1 R1=>?_⟩
 cases c with
 |true=>exact iteT ⟨π,α1,δ,h1,E,R1,S.mono e1,by simpa using f1,k.mono e1⟩
 |false=>exact iteF ⟨π,α1,δ,h1,E,R1,S.mono e1,by simpa using f1,k.mono e1⟩
theorem asgN_lift{K:PySem.W.Frag}{Ex:XK}{i:Nat}{F:Ends}{σ:L2.St}{H:Hp}(w:LS K Ex (dAsg fe (dName i)) F σ H):tAsg (LE K fe) (gName i) F σ H:=by
 obtain ⟨π,α,δ,h,E,R,S,q,k⟩:=w
 exact ⟨π,α,δ,h,_,R,S,q,fun d h1 α1 H1 v1 f1 e1 R1 q1=>k.nx _ h1 α1 H1 _ f1 e1 R1 ((S.mono e1).set i q1)⟩
theorem s_set{i:Nat}{x:Str}{pos':Pos}(hN:X.N.Nodup)(hi:X.N[i]?=some x)(hx:Loc X.env.scope x)(he:SE X e fe)(hs:swapsWith e (some (.Name x pos')) pos.line X.env=pure false:=by rfl)(hf:X.fn x=true∨X.env.scope.names.lookup x=some .local:=by trivial) :
  SS X (.Assign [.Name x pos'] e pos) (dAsg fe (dName i)):=PS.imp (ps_set hN hi hx he hs hf) fun _ _ _ w=>asgN_lift w
theorem s_aug{i:Nat}{x:Str}{op:Operator}{p:P2}{pos':Pos}(hN:X.N.Nodup)(hi:X.N[i]?=some x)(hx:Loc X.env.scope x)(he:SE X e fe)(ho:OpR X (inplaceOp op) (r2 X.K p))(hf:X.fn x=true∨X.env.scope.names.lookup x=some .local:=by trivial) :
  SS X (.AugAssign (.Name x pos') op e pos) (dAug i fe p):=PS.imp (ps_aug hN hi hx he ho hf) fun F σ H ⟨π,α,δ,h,E,R,S,q,k⟩=>by
 unfold dAug at q
 split at q
 ·rename_i d w
  obtain ⟨v,h1,h2⟩:=S.get i d w
  refine ⟨v,h1,π,α,δ,h,_,R,S,q,fun y h1 α1 H1 v1 f1 e1 R1 q1=>?_⟩
  exact ⟨π,α1,h1,d,y,_,R1,h2.mono e1,q1,f1,fun z h2 α2 H2 v2 f2 e2 R2 q2=>k.nx _ h2 α2 H2 _ f2 (e1.trans e2) R2 ((S.mono (e1.trans e2)).set i q2)⟩
 ·exact q.elim
noncomputable def dAugS(fo fi fe:DE)(p:P2):DS:=fun E δ h=>fo δ h fun o h1=>fi δ h1 fun i h2=>match o,i with
 |.ref j,.int n=>0 ≤ n∧match h2[j]? with
  |some (.lst xs)=>match xs[n.toNat]? with
   |some x=>fe δ h2 fun y h3=>p x y h3 fun z h4=>setD o i z h4 fun h5=>E.nx δ h5
   |none=>False
  |_=>False
 |_,_=>False
theorem s_augS{o i:Expr}{fo fi:DE}{p:P2}{op:Operator}{tpos:Pos}(ho:SE X o fo)(hi:SE X i fi)(he:SE X e fe)(hp:OpR X (inplaceOp op) (r2 X.K p))
  (ha:∀ ov iv new,augStore i ov iv new=(do holding [new,ov,iv] (setItem ov iv new);release [new,ov,iv] [];pure .next):=by intros;rfl):SS X (.AugAssign (.Subscript o i tpos) op e pos) (dAugS fo fi fe p):=PS.imp (ps_augS ho hi get_list he hp set_list ha) fun F σ H ⟨π,α,δ,h,E,R,S,q,k⟩=>by
 refine ⟨π,α,δ,h,_,R,S,q,fun o h1 α1 H1 v1 f1 e1 R1 q1=>?_⟩
 refine ⟨π,α1,δ,h1,_,R1,S.mono e1,f1,fun i h2 α2 H2 v2 f2 e2 R2 q2=>?_⟩
 have q1:=q1.mono e2
 cases q1 with
 |@ref j a hp =>
  cases q2 with
  |int n =>
   obtain ⟨n0,f2⟩:=f2
   cases w:h2[j]? with
   |none=>rw [w] at f2;exact f2.elim
   |some ob =>
    rw [w] at f2
    cases ob with
    |lst xs =>
     dsimp only at f2
     obtain ⟨p,us,e1',e2',e3'⟩:=R2.lst w
     rw [hp] at e1';cases e1'
     cases qq:xs[n.toNat]? with
     |none=>rw [qq] at f2;exact f2.elim
     |some x =>
      rw [qq] at f2
      obtain ⟨u,g1,g2⟩:=e3'.get qq
      refine ⟨a,us,n.toNat,u,rfl,congrArg V.int (by omega),SqL.of e2',g1,?_⟩
      refine ⟨π,α2,δ,h2,_,R2,S.mono (e1.trans e2),f2,fun y h3 α3 H3 v3 f3 e3 R3 q3=>?_⟩
      refine ⟨π,α3,h3,x,y,_,R3,g2.mono e3,q3,f3,fun z h4 α4 H4 v4 f4 e4 R4 q4=>?_⟩
      exact set_lift R4 (.ref ((e3.trans e4).get hp)) (.int n) q4 f4 fun h5 H5 f5 e5 R5=>k.nx δ h5 α4 H5 σ f5 (e1.trans (e2.trans (e3.trans (e4.trans e5)))) R5 (S.mono (e1.trans (e2.trans (e3.trans (e4.trans e5)))))
    |_=>exact f2.elim
  |_=>exact f2.elim
 |_=>exact f2.elim
end
noncomputable def whN(t:DT)(b:DS)(E:DEnds):Nat→Sl→Hh→Prop
 |0,_,_=>False
 |n + 1,δ,h=>t δ h fun c h1=>if c=true then b { E with nx:=whN t b E n,ct:=whN t b E n,bk:=E.nx } δ h1 else E.nx δ h1
noncomputable def dWhile(t:DT)(b:DS):DS:=fun E δ h=>∃ n,whN t b E n δ h
theorem s_while{X:Cx}{c:Expr}{body:List Stmt}{t:DT}{b:DS}{pos:Pos}(hp:PassesOwn (model X.prog X.w) X.A X.env X.xe)(hc:ST X c t)(hb:SSs X body b):SS X (.While c body [] pos) (dWhile t b):=PS.imp (ps_while hp hc hb) fun F σ H zz0=>by
 obtain ⟨π,α,δ,h,E,R,S,q,k⟩:=zz0
 obtain ⟨n,q⟩:=q
 refine ⟨fun m σ' H'=>∃ α' δ' h',Ext α H α' H'∧HRel ⟨X.K,π⟩ α' H' h'∧RelS ⟨X.K,π⟩ α' H' δ' σ'∧whN t b E m δ' h',⟨n,α,δ,h,Ext.refl ..,R,S,q⟩,?_⟩
 rintro m σ' H' ⟨α',δ',h',e',R',S',q'⟩
 cases m with
 |zero=>exact q'.elim
 |succ m =>
  refine ⟨π,α',δ',h',_,R',S',q',fun c h1 α1 H1 f1 e1 R1=>?_⟩
  cases c with
  |false=>exact iteF (k.nx δ' h1 α1 H1 σ' (by simpa using f1) (e'.trans e1) R1 (S'.mono e1))
  |true =>
   refine iteT ⟨fun σ2 H2=>∃ α2 δ2 h2,Ext α H α2 H2∧HRel ⟨X.K,π⟩ α2 H2 h2∧RelS ⟨X.K,π⟩ α2 H2 δ2 σ2∧whN t b E m δ2 h2,fun σ2 H2 z=>⟨m,Nat.lt_succ_self m,z⟩,?_⟩
   have f1:b { E with nx:=whN t b E m,ct:=whN t b E m,bk:=E.nx } δ' h1:=by simpa using f1
   have k1:=k.mono (e'.trans e1)
   exact ⟨π,α1,δ',h1,_,R1,S'.mono e1,f1,⟨fun δ2 h2 α2 H2 σ2 a b c d=>⟨α2,δ2,h2,e'.trans (e1.trans b),c,d,a⟩,k1.rt,k1.nx,fun δ2 h2 α2 H2 σ2 a b c d=>⟨α2,δ2,h2,e'.trans (e1.trans b),c,d,a⟩,k1.ex⟩⟩
structure Src where
 items:List D
 w:List (Nat×O)
noncomputable def Src.ok(S:Src)(h:Hh):Prop:=∀ p ∈ S.w,h[p.1]?=some p.2
theorem Src.ok_nil{xs:List D}{h:Hh}:(Src.mk xs []).ok h:=fun p hp=>nomatch hp
noncomputable abbrev DI:=Sl→Hh→(Src→Hh→Prop)→Prop
structure ItOk(K:KP)(J:It)(S:Src)(St:List Addr→Hp→Prop):Prop where
 keep:∀ α H α' H',St α H→Ext α H α' H'→St α' H'
 priv:∀ α H H' D,St α H→Priv D H H'→D ∈ K.π→St α H'
 item:∀ α H h i d,HRel K α H h→St α H→S.ok h→S.items[i]?=some d→J.go i H∧∀ x H',J.yld i H x H'→Ext α H α H'∧HRel K α H' h∧RelD K α H' d x
 stop:∀ α H h,HRel K α H h→St α H→S.ok h→J.stop S.items.length H
noncomputable def ItA(K:PySem.W.Frag)(π:List Addr)(α:List Addr)(H:Hp)(J:It)(S:Src):Prop:=∀ π',(∀ p ∈ π',p ∈ π∨H p=none)→∃ St,ItOk ⟨K,π'⟩ J S St∧St α H
inductive LI(K:PySem.W.Frag)(f:DI)(σ:St)(H:Hp)(R:It→Hp→Prop):Prop
 |mk (π:List Addr) (α:List Addr) (δ:Sl) (h:Hh) (Q':Src→Hh→Prop):HRel ⟨K,π⟩ α H h→RelS ⟨K,π⟩ α H δ σ→f δ h Q'→(∀ S h' α' H' J,Q' S h'→Ext α H α' H'→HRel ⟨K,π⟩ α' H' h'→ItA K π α' H' J S→S.ok h'→R J H')→LI K f σ H R
noncomputable def SI(X:Cx)(tg iter:Expr)(f:DI):Prop:=PI X tg iter (LI X.K f)
noncomputable def forL(S:Src)(t:DG)(b:DS)(E:DEnds):List D→Sl→Hh→Prop
 |[],δ,h=>S.ok h∧E.nx δ h
 |x :: r,δ,h=>S.ok h∧t x δ h fun δ2 h2=>b { E with nx:=forL S t b E r,ct:=forL S t b E r,bk:=E.nx } δ2 h2
noncomputable def dFor(s:DI)(t:DG)(b:DS):DS:=fun E δ h=>s δ h fun S h1=>forL S t b E S.items δ h1
theorem s_for{X:Cx}{tg iter:Expr}{body:List Stmt}{s:DI}{t:DG}{b:DS}{pos:Pos}(hp:PassesOwn (model X.prog X.w) X.A X.env X.xe)(hc:X.calm=true)(hi:SI X tg iter s)(hg:SG X tg t)(hb:SSs X body b)
  (hs:∀ x,foldedSetIterable iter X.env x=pure x:=by intro _;rfl):SS X (.For tg iter body [] pos) (dFor s t b):=PS.imp (ps_for hp hc hi hg hb hs) fun F σ H ⟨π,α,δ,h,E,R,S,q,k⟩=>by
 refine ⟨π,α,δ,h,_,R,S,q,fun Sr h1 α1 H1 J f1 e1 R1 ia ok1=>?_⟩
 obtain ⟨St,io,st1⟩:=ia π (fun p z=>.inl z)
 refine ⟨fun i m σ' H'=>m=Sr.items.length - i∧i ≤ Sr.items.length∧∃ α' δ' h',Ext α H α' H'∧HRel ⟨X.K,π⟩ α' H' h'∧RelS ⟨X.K,π⟩ α' H' δ' σ'∧St α' H'∧forL Sr t b E (Sr.items.drop i) δ' h',⟨_,rfl,Nat.zero_le _,α1,δ,h1,e1,R1,S.mono e1,st1,f1⟩,?_⟩
 rintro i m σ' H' ⟨rfl,hi,α',δ',h',e',R',S',st',q'⟩
 by_cases hlt:i < Sr.items.length
 ·rw [List.drop_eq_getElem_cons hlt] at q'
  obtain ⟨okh,q'⟩:=q'
  obtain ⟨go,yl⟩:=io.item α' H' h' i Sr.items[i] R' st' okh (List.getElem?_eq_getElem hlt)
  refine .inr ⟨go,fun σ2 H2=>∃ α2 δ2 h2,Ext α H α2 H2∧HRel ⟨X.K,π⟩ α2 H2 h2∧RelS ⟨X.K,π⟩ α2 H2 δ2 σ2∧St α2 H2∧forL Sr t b E (Sr.items.drop (i + 1)) δ2 h2,fun σ2 H2 z=>⟨_,by omega,rfl,hlt,z⟩,fun x H2 y2=>?_⟩
  obtain ⟨e2,R2,r2⟩:=yl x H2 y2
  refine ⟨π,α',δ',h',Sr.items[i],_,R2,S'.mono e2,r2,q',fun δ3 h3 α3 H3 σ3 f3 e3 R3 S3=>?_⟩
  have e4:=e'.trans (e2.trans e3)
  have k3:=k.mono e4
  have st3:=io.keep _ _ _ _ st' (e2.trans e3)
  exact ⟨π,α3,δ3,h3,_,R3,S3,f3,⟨fun δ5 h5 α5 H5 σ5 a b c d=>⟨α5,δ5,h5,e4.trans b,c,d,io.keep _ _ _ _ st3 b,a⟩,k3.rt,k3.nx,fun δ5 h5 α5 H5 σ5 a b c d=>⟨α5,δ5,h5,e4.trans b,c,d,io.keep _ _ _ _ st3 b,a⟩,k3.ex⟩⟩
 ·have ei:i=Sr.items.length:=by omega
  subst ei
  rw [List.drop_length] at q'
  exact .inl ⟨io.stop α' H' h' R' st' q'.1,k.nx δ' h' α' H' σ' q'.2 e' R' S'⟩
noncomputable def compSl(js:List (Option Nat))(δ:Sl):Sl:=js.map fun j=>match j with
 |some j=>(δ[j]?).getD none
 |none=>none
noncomputable def compL(S:Src)(t:DG)(tf:DT)(te:DE):List D→List D→Sl→Hh→(List D→Hh→Prop)→Prop
 |[],acc,_,h,Q=>S.ok h∧Q acc h
 |x :: r,acc,δ,h,Q=>S.ok h∧t x δ h fun δ2 h2=>tf δ2 h2 fun b h3=>if b=true then te δ2 h3 fun y h4=>compL S t tf te r (acc ++ [y]) δ2 h4 Q else compL S t tf te r acc δ2 h3 Q
noncomputable def dComp(js:List (Option Nat))(s:DI)(t:DG)(tf:DT)(te:DE):DN:=fun δ h Q=>s δ h fun S h1=>S.items.length ≤ 16777216∧compL S t tf te S.items [] (compSl js δ) h1 Q
theorem compS_rel{K:KP}{α:List Addr}{H:Hp}{δ:Sl}{σ:L2.St}(S:RelS K α H δ σ)(js:List (Option Nat)):RelS K α H (compSl js δ) (compSt js σ):=by
 refine ⟨by unfold compSl compSt;simp,fun i d e=>?_⟩
 unfold compSl at e
 rw [List.getElem?_map] at e
 unfold compSt
 rw [List.getElem?_map]
 cases q:js[i]? with
 |none=>rw [q] at e;cases e
 |some j =>
  rw [q] at e
  cases j with
  |none=>cases e
  |some j =>
   have e:(δ[j]?).getD none=some d:=Option.some.inj e
   cases w:δ[j]? with
   |none=>rw [w] at e;cases e
   |some z =>
    rw [w] at e
    have e:z=some d:=e
    subst e
    obtain ⟨v,h1,h2⟩:=S.get j d w
    exact ⟨v,by show some ((σ[j]?).getD none)=_;rw [h1];rfl,h2⟩
theorem comp_lift{K:PySem.W.Frag}{js:List (Option Nat)}{s:DI}{t:DG}{tf:DT}{te:DE}{σ:L2.St}{H:Hp}{Q:VK}(w:LN K (dComp js s t tf te) σ H Q) :
  tComp js (LI K s) (fun _ _ _=>LG K t) (fun _ _ _=>LT K tf) (fun _ _ _=>LE K te) σ H Q:=by
 obtain ⟨π,α,δ,h,Q',R,S,q,k⟩:=w
 refine ⟨π,α,δ,h,_,R,S,q,fun Sr h1 α1 H1 J f1 e1 R1 ia ok1=>fun Da hD s0 H0 fp=>?_⟩
 obtain ⟨hlen,f1⟩:=f1
 have sub:∀ p ∈ Da :: π,p ∈ π∨H1 p=none:=fun p hp=>by
  rcases List.mem_cons.mp hp with rfl | z
  ·exact .inr hD
  ·exact .inl z
 obtain ⟨St,io,st1⟩:=ia (Da :: π) sub
 have eN:Ext α1 H1 α1 (upd H1 Da (.lst [])):=Ext.new hD
 have hin:Da ∈ (KP.mk K (Da :: π)).π:=List.mem_cons_self
 refine ⟨fun i m σ' H'=>m=Sr.items.length - i∧i ≤ Sr.items.length∧∃ α' δ' h' acc us,Ext α1 H1 α' H'∧HRel ⟨K,Da :: π⟩ α' H' h'∧RelS ⟨K,Da :: π⟩ α' H' δ' σ'∧St α' H'∧H' Da=some (.lst us)∧RelDs ⟨K,Da :: π⟩ α' H' acc us∧acc.length ≤ i ∧
   compL Sr t tf te (Sr.items.drop i) acc δ' h' Q',⟨_,rfl,Nat.zero_le _,α1,compSl js δ,h1,[],[],eN,R1.under hD,(compS_rel ((S.mono e1).more sub) js).mono eN,io.keep _ _ _ _ st1 eN,upd_same,.nil,Nat.le_refl _,f1⟩,?_⟩
 rintro i m σ' H' ⟨rfl,hi,α',δ',h',acc,us,e',R',S',st',hus,ra,la,q'⟩
 have nD:Da ∉ α':=(R'.dis Da hin).1
 by_cases hlt:i < Sr.items.length
 ·rw [List.drop_eq_getElem_cons hlt] at q'
  obtain ⟨okh,q'⟩:=q'
  obtain ⟨go,yl⟩:=io.item α' H' h' i Sr.items[i] R' st' okh (List.getElem?_eq_getElem hlt)
  refine .inr ⟨go,fun x H2 y2=>?_⟩
  obtain ⟨e2,R2,r2⟩:=yl x H2 y2
  refine ⟨Da :: π,α',δ',h',Sr.items[i],_,R2,S'.mono e2,r2,q',fun δ3 h3 α3 H3 σ3 f3 e3 R3 S3=>?_⟩
  refine ⟨Da :: π,α3,δ3,h3,_,R3,S3,f3,fun b h4 α4 H4 f4 e4 R4=>?_⟩
  have e24:=e2.trans (e3.trans e4)
  cases b with
  |false =>
   refine iteF ⟨_,by omega,rfl,hlt,α4,δ3,h4,acc,us,e'.trans e24,R4,S3.mono e4,io.keep _ _ _ _ st' e24,e24.keep _ _ hus nD,ra.mono e24,by omega,by simpa using f4⟩
  |true =>
   have f4:te δ3 h4 fun y h5=>compL Sr t tf te (Sr.items.drop (i + 1)) (acc ++ [y]) δ3 h5 Q':=by simpa using f4
   refine iteT ⟨Da :: π,α4,δ3,h4,_,R4,S3.mono e4,f4,fun y h5 α5 H5 v5 f5 e5 R5 q5=>?_⟩
   have e25:=e24.trans e5
   have h5D:H5 Da=some (.lst us):=e25.keep _ _ hus nD
   have pv:Priv Da H5 (upd H5 Da (.lst (us ++ [v5]))):=⟨fun b hb=>upd_ne hb⟩
   have ra5:=ra.mono e25
   refine ⟨us,h5D,by rw [← ra5.length,sizeLine_eq];omega,_,by omega,rfl,hlt,α5,δ3,h5,acc ++ [y],us ++ [v5],(e'.trans e25).grow hD,R5.priv pv hin (by rw [upd_same];exact ⟨(fun z=>by cases z),fun _ z=>by cases z⟩),(S3.mono (e4.trans e5)).priv pv hin,io.priv _ _ _ _ (io.keep _ _ _ _ st' e25) pv hin,upd_same,(ra5.snoc q5).priv pv hin,by rw [List.length_append,List.length_singleton];omega,f5⟩
 ·have ei:i=Sr.items.length:=by omega
  subst ei
  rw [List.drop_length] at q'
  exact .inl ⟨io.stop α' H' h' R' st' q'.1,k _ h' α' H' us Da q'.2 (e1.trans e') R' ra hus (e1.dom Da hD) (R1.outP hD)⟩
noncomputable def dNoIf:DT:=fun _ h Q=>Q true h
section
variable {X:Cx} {pins:List (Addr×Obj)} {σ:L2.St} {H:Hp} {s:Shared} {N':List Str} {js:List (Option Nat)} {scope:Scope}
noncomputable def SF(X:Cx)(es:List Expr)(t:DT):Prop:=PF X es (LT X.K t)
theorem PF.imp{es:List Expr}{t t':TT}(h:PF X es t)(k:∀ σ H Q,t' σ H Q→t σ H Q):PF X es t':=fun pins s σ H Q I q=>h pins s σ H Q I (k σ H Q q)
theorem sf_nil:SF X [] dNoIf:=PF.imp pf_nil fun σ H Q ⟨π,α,δ,h,Q',R,S,f,k⟩=>k true h α H f (Ext.refl ..) R
theorem sf_one{c:Expr}{t:DT}(h:ST X c t):SF X [c] t:=pf_one h
variable {tg iter elt:Expr} {ifs:List Expr} {pos:Pos} {sr:DI} {g:DG} {tf:DT} {te:DE}
theorem sn_comp(hc:X.calm=true)(C:CompOk X N' js scope)(hi:SI X tg iter sr)
  (body:∀ (s0:Shared) (H0:Hp) (fp:List Addr),SG (cxComp X N' scope s0 H0 fp) tg g∧SF (cxComp X N' scope s0 H0 fp) ifs tf∧SE (cxComp X N' scope s0 H0 fp) elt te)
  (hs:∀ x,foldedSetIterable iter X.env x=pure x:=by intro _;rfl):SN X (.ListComp elt [⟨tg,iter,ifs,0⟩] scope pos) (dComp js sr g tf te) :=
 PE.imp (pe_comp hc C hi (g:=fun _ _ _=>LG X.K g) (tf:=fun _ _ _=>LT X.K tf) (te:=fun _ _ _=>LE X.K te) body hs) fun _ _ _ w=>comp_lift w
theorem s_setcV{i:Nat}{x:Str}{px cpos:Pos}(hc:X.calm=true)(C:CompOk X N' js scope)(hi:SI X tg iter sr)
  (body:∀ (s0:Shared) (H0:Hp) (fp:List Addr),SG (cxComp X N' scope s0 H0 fp) tg g∧SF (cxComp X N' scope s0 H0 fp) ifs tf∧SE (cxComp X N' scope s0 H0 fp) elt te)
  (hN:X.N.Nodup) (hix:X.N[i]?=some x) (hx:Loc X.env.scope x)
  (hsw:swapsWith (.ListComp elt [⟨tg,iter,ifs,0⟩] scope cpos) (some (.Name x px)) pos.line X.env=pure true:=by rfl) (hf:X.fn x=true∨X.env.scope.names.lookup x=some .local:=by trivial)
  (hs:∀ x,foldedSetIterable iter X.env x=pure x:=by intro _;rfl):SS X (.Assign [.Name x px] (.ListComp elt [⟨tg,iter,ifs,0⟩] scope cpos) pos) (dAsg (dV (dComp js sr g tf te)) (dName i)) :=
 PS.imp (ps_setc hc C hi (g:=fun _ _ _=>LG X.K g) (tf:=fun _ _ _=>LT X.K tf) (te:=fun _ _ _=>LE X.K te) body hN hix hx hsw hf hs) fun F σ H w=>by
  obtain ⟨π,α,δ,h,E,R,S,q,k⟩:=w
  exact comp_lift (Q:=fun x H1=>gName i x σ H1 F.nx) ⟨π,α,δ,h,_,R,S,q,fun ds h1 α1 H1 us p f1 e1 R1 q1 hus hp np=>k.nx _ h1 α1 H1 _ f1 e1 R1.less (((S.mono e1)).set i (.lst ⟨(R1.dis p List.mem_cons_self).1,np,hus⟩ (q1.more fun q hq=>.inl (List.mem_cons_of_mem _ hq))))⟩
theorem s_setcT{i:Nat}{x:Str}{px cpos:Pos}(hc:X.calm=true)(C:CompOk X N' js scope)(hi:SI X tg iter sr)
  (body:∀ (s0:Shared) (H0:Hp) (fp:List Addr),SG (cxComp X N' scope s0 H0 fp) tg g∧SF (cxComp X N' scope s0 H0 fp) ifs tf∧SE (cxComp X N' scope s0 H0 fp) elt te)
  (hN:X.N.Nodup) (hix:X.N[i]?=some x) (hx:Loc X.env.scope x)
  (hsw:swapsWith (.ListComp elt [⟨tg,iter,ifs,0⟩] scope cpos) (some (.Name x px)) pos.line X.env=pure true:=by rfl) (hf:X.fn x=true∨X.env.scope.names.lookup x=some .local:=by trivial)
  (hs:∀ x,foldedSetIterable iter X.env x=pure x:=by intro _;rfl):SS X (.Assign [.Name x px] (.ListComp elt [⟨tg,iter,ifs,0⟩] scope cpos) pos) (dAsg (dTk (dComp js sr g tf te)) (dName i)) :=
 PS.imp (ps_setc hc C hi (g:=fun _ _ _=>LG X.K g) (tf:=fun _ _ _=>LT X.K tf) (te:=fun _ _ _=>LE X.K te) body hN hix hx hsw hf hs) fun F σ H w=>by
  obtain ⟨π,α,δ,h,E,R,S,q,k⟩:=w
  exact comp_lift (Q:=fun x H1=>gName i x σ H1 F.nx) ⟨π,α,δ,h,_,R,S,q,fun ds h1 α1 H1 us p f1 e1 R1 q1 hus hp np=>k.nx (δ.set i (some (.ref h1.length))) (h1 ++ [.lst ds]) (α1 ++ [p]) H1 _ (by exact f1) (e1.adopt hp) (R1.adopt np (.lst hus q1.adopt)) ((S.mono (e1.adopt hp)).set i (.ref (by rw [← R1.len];simp)))⟩
end
end DL
namespace DL
open PySem PySem.Spec L2
mutual
inductive IsP(h:Hh):D→PyData→Prop
 |non:IsP h .non .none
 |bl (b:Bool):IsP h (.bl b) (.bool b)
 |int (i:Int):IsP h (.int i) (.int i)
 |str (x:Str):IsP h (.str x) (.str x)
 |tup {ds:List D} {ps:List PyData}:IsPs h ds ps→IsP h (.tup ds) (.tuple ps)
 |lst {ds:List D} {ps:List PyData}:IsPs h ds ps→IsP h (.lst ds) (.list ps)
 |ref {i:Nat} {ds:List D} {ps:List PyData}:h[i]?=some (.lst ds)→IsPs h ds ps→IsP h (.ref i) (.list ps)
inductive IsPs(h:Hh):List D→List PyData→Prop
 |nil:IsPs h [] []
 |cons {d:D} {p:PyData} {ds:List D} {ps:List PyData}:IsP h d p→IsPs h ds ps→IsPs h (d :: ds) (p :: ps)
end
section
variable {X:Cx} {pins:List (Addr×Obj)} {σ:L2.St} {H:Hp} {s:Shared} {π α:List Addr} {h:Hh}
theorem IsP.reads(I:Inv X pins σ H s)(R:HRel ⟨X.K,π⟩ α H h){d:D}{p:PyData}(e:IsP h d p):∀ {v:V} {u:Value},RelD ⟨X.K,π⟩ α H d v→RelV v u→∃ as,Reads s.heap u p as:=by
 refine IsP.rec (motive_1:=fun d p _=>∀ {v:V} {u:Value},RelD ⟨X.K,π⟩ α H d v→RelV v u→∃ as,Reads s.heap u p as) (motive_2:=fun ds ps _=>∀ {vs:List V} {us:List Value},RelDs ⟨X.K,π⟩ α H ds vs→Vals vs us→∃ as,ReadsAll s.heap us ps as) ?_ ?_ ?_ ?_ ?_ ?_ ?_ ?_ ?_ e
 ·intro v u q r;cases q;cases r;exact ⟨_,.none⟩
 ·intro b v u q r;cases q;cases r;exact ⟨_,.bool b⟩
 ·intro i v u q r;cases q;obtain ⟨t,rfl⟩:=r;exact ⟨_,.int i t⟩
 ·intro x v u q r;cases q;obtain ⟨t,rfl⟩:=r;exact ⟨_,.str x t⟩
 ·intro ds ps _ ih v u q0 r
  cases q0 with
  |tup t rr =>
   cases r
   obtain ⟨its,rv,⟨o,q,c,n,d⟩,_⟩:=I.tuple t.sq
   obtain ⟨as,ra⟩:=ih rr rv
   exact ⟨_,.tuple q c d (by simpa using ra)⟩
 ·intro ds ps _ ih v u q0 r
  cases q0 with
  |lst t rr =>
   cases r
   obtain ⟨its,rv,⟨o,n,q,c,_,d⟩,_⟩:=I.list t.sq
   obtain ⟨as,ra⟩:=ih rr rv
   exact ⟨_,.list q c d (by simpa using ra)⟩
 ·intro i ds ps hh _ ih v u q0 r
  cases q0 with
  |ref hp =>
   cases r
   obtain ⟨a,us,e1,e2,e3⟩:=R.lst hh
   rw [hp] at e1;cases e1
   obtain ⟨its,rv,⟨o,n,q,c,_,d⟩,_⟩:=I.list (SqL.of (K:=X.K) e2)
   obtain ⟨as,ra⟩:=ih e3 rv
   exact ⟨_,.list q c d (by simpa using ra)⟩
 ·intro vs us q r;cases q;cases r;exact ⟨_,.nil⟩
 ·intro d ds p ps _ _ ih iht vs us q r
  cases q with
  |cons rr rs =>
   cases r with
   |cons r1 r2 =>
    obtain ⟨as,ra⟩:=ih rr r1
    obtain ⟨bs,rb⟩:=iht rs r2
    exact ⟨_,.cons ra rb⟩
end
noncomputable def eqS:D→D→Option Bool
 |.int i,.int j=>some (i == j)
 |.str a,.str b=>if PyData.strOk a && PyData.strOk b then some (a == b) else none
 |.bl a,.bl b=>some (a == b)
 |.non,.non=>some true
 |.int _,.str b=>if PyData.strOk b then some false else none
 |.str a,.int _=>if PyData.strOk a then some false else none
 |.non,.int _=>some false
 |.int _,.non=>some false
 |.non,.tup _=>none
 |_,_=>none
noncomputable def pEq(neg:Bool):P2:=fun x y h Q=>match eqS x y with
 |some b=>Q (.bl (if neg then !b else b)) h
 |none=>∃ a b,IsP h x a∧IsP h y b∧SeqAt.shaped a=true∧SeqAt.shaped b=true∧Q (.bl (if neg then !PyData.eqv a b else PyData.eqv a b)) h
theorem eqS_ok{h:Hh}{x y:D}{b:Bool}(e:eqS x y=some b):∃ p q,IsP h x p∧IsP h y q∧SeqAt.shaped p=true∧SeqAt.shaped q=true∧PyData.eqv p q=b:=by
 have si:∀ i:Int,SeqAt.shaped (.int i)=true:=fun i=>by simp [SeqAt.shaped,PyData.canLay0,PyData.depth]
 have sn:SeqAt.shaped .none=true:=by simp [SeqAt.shaped,PyData.canLay0,PyData.depth]
 have sb:∀ b:Bool,SeqAt.shaped (.bool b)=true:=fun i=>by simp [SeqAt.shaped,PyData.canLay0,PyData.depth]
 have ss:∀ x:Str,PyData.strOk x=true→SeqAt.shaped (.str x)=true:=fun x hx=>by simp [SeqAt.shaped,PyData.canLay0,PyData.depth,hx]
 cases x with
 |int i =>
  cases y with
  |int j=>cases e;exact ⟨_,_,.int _,.int _,si _,si _,rfl⟩
  |str t =>
   have e:(if PyData.strOk t=true then some false else none)=some b:=e
   by_cases q:PyData.strOk t=true
   ·rw [if_pos q] at e;cases e;exact ⟨_,_,.int _,.str _,si _,ss _ q,rfl⟩
   ·rw [if_neg q] at e;cases e
  |non=>cases e;exact ⟨_,_,.int _,.non,si _,sn,rfl⟩
  |_=>cases e
 |str a =>
  cases y with
  |int j =>
   have e:(if PyData.strOk a=true then some false else none)=some b:=e
   by_cases q:PyData.strOk a=true
   ·rw [if_pos q] at e;cases e;exact ⟨_,_,.str _,.int _,ss _ q,si _,rfl⟩
   ·rw [if_neg q] at e;cases e
  |str t =>
   have e:(if (PyData.strOk a && PyData.strOk t)=true then some (a == t) else none)=some b:=e
   by_cases q:(PyData.strOk a && PyData.strOk t)=true
   ·rw [if_pos q] at e
    rw [Bool.and_eq_true] at q
    cases e;exact ⟨_,_,.str _,.str _,ss _ q.1,ss _ q.2,rfl⟩
   ·rw [if_neg q] at e;cases e
  |_=>cases e
 |bl a =>
  cases y with
  |bl c=>cases e;exact ⟨_,_,.bl _,.bl _,sb _,sb _,rfl⟩
  |_=>cases e
 |non =>
  cases y with
  |non=>cases e;exact ⟨_,_,.non,.non,sn,sn,rfl⟩
  |int j=>cases e;exact ⟨_,_,.non,.int _,sn,si _,rfl⟩
  |_=>cases e
 |_=>cases e
section
variable {X:Cx}
theorem pEq_all{neg:Bool}{x y:D}{h:Hh}{Q:DK}(f:pEq neg x y h Q):∃ a b,IsP h x a∧IsP h y b∧SeqAt.shaped a=true∧SeqAt.shaped b=true∧Q (.bl (if neg then !PyData.eqv a b else PyData.eqv a b)) h:=by
 unfold pEq at f
 cases q:eqS x y with
 |none=>rw [q] at f;exact f
 |some b =>
  rw [q] at f
  obtain ⟨p,q,a,b',c,d,e⟩:=eqS_ok (h:=h) q
  exact ⟨p,q,a,b',c,d,by rw [e];exact f⟩
theorem ok_eq(hu:X.A.units + 64 < cLine):OpR X (compareOp .Eq) (r2 X.K (pEq false)):=by
 intro pins s σ H x y v u Q I rx ry ⟨π,α,h,d,e,Q',R,r1,r2,f,k⟩
 obtain ⟨a,b,ia,ib,sa,sb,q⟩:=pEq_all f
 obtain ⟨as,ra⟩:=ia.reads I R r1 rx
 obtain ⟨bs,rb⟩:=ib.reads I R r2 ry
 exact SeqAt.compareEq_shaped ra rb sa sb hu ⟨.bl (PyData.eqv a b),H,I,rfl,k _ h α H _ q (Ext.refl ..) R (.bl _)⟩
theorem ok_ne(hu:X.A.units + 64 < cLine):OpR X (compareOp .NotEq) (r2 X.K (pEq true)):=by
 intro pins s σ H x y v u Q I rx ry ⟨π,α,h,d,e,Q',R,r1,r2,f,k⟩
 obtain ⟨a,b,ia,ib,sa,sb,q⟩:=pEq_all f
 obtain ⟨as,ra⟩:=ia.reads I R r1 rx
 obtain ⟨bs,rb⟩:=ib.reads I R r2 ry
 exact SeqAt.compareNe_shaped ra rb sa sb hu ⟨.bl (!PyData.eqv a b),H,I,rfl,k _ h α H _ q (Ext.refl ..) R (.bl _)⟩
end
structure SeqIt(K:KP)(Sq:Hp→List V→Prop)(xs:List D)(w:List (Nat×O))(St:List Addr→Hp→Prop):Prop where
 keep:∀ α H α' H',St α H→Ext α H α' H'→St α' H'
 priv:∀ α H H' D,St α H→Priv D H H'→D ∈ K.π→St α H'
 get:∀ α H h,HRel K α H h→St α H→(∀ p ∈ w,h[p.1]?=some p.2)→∃ us,Sq H us∧RelDs K α H xs us
noncomputable def SeqA(K:PySem.W.Frag)(π α:List Addr)(H:Hp)(Sq:Hp→List V→Prop)(xs:List D)(w:List (Nat×O)):Prop:=∀ π',(∀ p ∈ π',p ∈ π∨H p=none)→∃ St,SeqIt ⟨K,π'⟩ Sq xs w St∧St α H
noncomputable def seqSrc(h:Hh):D→Option Src
 |.tup xs=>some ⟨xs,[]⟩
 |.lst xs=>some ⟨xs,[]⟩
 |.scr xs=>some ⟨xs,[]⟩
 |.ref i=>match h[i]? with | some (.lst xs)=>some ⟨xs,[(i,.lst xs)]⟩ | _=>none
 |_=>none
theorem seqSrc_ok{K:PySem.W.Frag}{π α:List Addr}{H:Hp}{h:Hh}(R:HRel ⟨K,π⟩ α H h){d:D}{v:V}{S:Src}(r:RelD ⟨K,π⟩ α H d v)(e:seqSrc h d=some S) :
  ∃ a,v = .ref a∧S.ok h∧(((∃ us,SqL K H a us)∧SeqA K π α H (fun H us=>SqL K H a us) S.items S.w)∨((∃ us,SqT K H a us)∧SeqA K π α H (fun H us=>SqT K H a us) S.items S.w)):=by
 cases r with
 |@tup a us ds t rs =>
  cases e
  exact ⟨a,rfl,Src.ok_nil,.inr ⟨⟨us,t.sq⟩,fun π' s=>⟨fun α H=>VT ⟨K,π'⟩ α H a us∧RelDs ⟨K,π'⟩ α H ds us,⟨fun α H α' H' st e=>⟨st.1.mono e,st.2.mono e⟩,fun α H H' D st e hD=>⟨st.1.priv e hD,st.2.priv e hD⟩,fun α H h R st _=>⟨us,st.1.sq,st.2⟩⟩,t.more s,rs.more s⟩⟩⟩
 |@lst a us ds t rs =>
  cases e
  exact ⟨a,rfl,Src.ok_nil,.inl ⟨⟨us,t.sq⟩,fun π' s=>⟨fun α H=>VL ⟨K,π'⟩ α H a us∧RelDs ⟨K,π'⟩ α H ds us,⟨fun α H α' H' st e=>⟨st.1.mono e,st.2.mono e⟩,fun α H H' D st e hD=>⟨st.1.priv e hD,st.2.priv e hD⟩,fun α H h R st _=>⟨us,st.1.sq,st.2⟩⟩,t.more s,rs.more s⟩⟩⟩
 |@scr a us ds t rs =>
  cases e
  exact ⟨a,rfl,Src.ok_nil,.inl ⟨⟨us,t.sq⟩,fun π' s=>⟨fun α H=>VS ⟨K,π'⟩ α H a us∧RelDs ⟨K,π'⟩ α H ds us,⟨fun α H α' H' st e=>⟨st.1.mono e,st.2.mono e⟩,fun α H H' D st e hD=>⟨st.1.priv e hD,st.2.priv e hD⟩,fun α H h R st _=>⟨us,st.1.sq,st.2⟩⟩,t.more s,rs.more s⟩⟩⟩
 |@ref i a hp =>
  have e:(match h[i]? with | some (.lst xs)=>some (Src.mk xs [(i,.lst xs)]) | _=>none)=some S:=e
  cases q:h[i]? with
  |none=>rw [q] at e;cases e
  |some o =>
   rw [q] at e
   cases o with
   |lst xs =>
    cases e
    obtain ⟨p,us,e1,e2,e3⟩:=R.lst q
    rw [hp] at e1;cases e1
    refine ⟨a,rfl,fun z hz=>by rw [List.mem_singleton.mp hz];exact q,.inl ⟨⟨us,SqL.of e2⟩,fun π' s=>⟨fun α H=>α[i]?=some a,⟨fun α H α' H' st e=>e.get st,fun α H H' D st e hD=>st,fun α H h R st w=>?_⟩,hp⟩⟩⟩
    obtain ⟨p,us,e1,e2,e3⟩:=R.lst (w (i,.lst xs) (List.mem_singleton.mpr rfl))
    rw [st] at e1;cases e1
    exact ⟨us,SqL.of e2,e3⟩
   |_=>cases e
 |_=>cases e
theorem it_list{K:PySem.W.Frag}{π α:List Addr}{H:Hp}{a:Addr}{S:Src}(s:SeqA K π α H (fun H us=>SqL K H a us) S.items S.w):ItA K π α H (Itl K a) S:=fun π' sub=>by
 obtain ⟨St,si,st⟩:=s π' sub
 refine ⟨St,⟨si.keep,si.priv,fun α H h i d R st ok hi=>?_,fun α H h R st ok=>?_⟩,st⟩
 ·obtain ⟨us,hq,rs⟩:=si.get α H h R st ok
  obtain ⟨u,hu,ru⟩:=rs.get hi
  refine ⟨⟨us,u,hq,hu⟩,fun x H' ⟨e1,e2⟩=>?_⟩
  subst e1
  have:=(e2 us hq).symm.trans hu
  cases this
  exact ⟨Ext.refl ..,R,ru⟩
 ·obtain ⟨us,hq,rs⟩:=si.get α H h R st ok
  exact ⟨us,hq,by rw [← rs.length];exact Nat.le_refl _⟩
theorem it_tup{K:PySem.W.Frag}{π α:List Addr}{H:Hp}{a:Addr}{S:Src}(s:SeqA K π α H (fun H us=>SqT K H a us) S.items S.w):ItA K π α H (Itt K a) S:=fun π' sub=>by
 obtain ⟨St,si,st⟩:=s π' sub
 refine ⟨St,⟨si.keep,si.priv,fun α H h i d R st ok hi=>?_,fun α H h R st ok=>?_⟩,st⟩
 ·obtain ⟨us,hq,rs⟩:=si.get α H h R st ok
  obtain ⟨u,hu,ru⟩:=rs.get hi
  refine ⟨⟨us,u,hq,hu⟩,fun x H' ⟨e1,e2⟩=>?_⟩
  subst e1
  have:=(e2 us hq).symm.trans hu
  cases this
  exact ⟨Ext.refl ..,R,ru⟩
 ·obtain ⟨us,hq,rs⟩:=si.get α H h R st ok
  exact ⟨us,hq,by rw [← rs.length];exact Nat.le_refl _⟩
noncomputable def enumD:Int→List D→List D
 |_,[]=>[]
 |n,x :: r=>.tup [.int n,x] :: enumD (n + 1) r
theorem enumD_get:∀ (n:Int) (xs:List D) (i:Nat),(enumD n xs)[i]?=(xs[i]?).map fun x=>.tup [.int (n + i),x]
 |n,[],i=>by simp [enumD]
 |n,x :: r,0=>by simp [enumD]
 |n,x :: r,i + 1=>by
  have:=enumD_get (n + 1) r i
  simp only [enumD,List.getElem?_cons_succ,this]
  congr 1;funext y;congr 3;push_cast;omega
theorem enumD_length:∀ (n:Int) (xs:List D),(enumD n xs).length=xs.length
 |_,[]=>rfl
 |n,x :: r=>by simp [enumD,enumD_length (n + 1) r]
theorem it_enum{K:PySem.W.Frag}{π α:List Addr}{H:Hp}{Sq:Hp→List V→Prop}{S:Src}(s:SeqA K π α H Sq S.items S.w):ItA K π α H (Ite Sq) ⟨enumD 0 S.items,S.w⟩:=fun π' sub=>by
 obtain ⟨St,si,st⟩:=s π' sub
 refine ⟨St,⟨si.keep,si.priv,fun α H h i d R st ok hi=>?_,fun α H h R st ok=>?_⟩,st⟩
 ·rw [enumD_get] at hi
  cases q:S.items[i]? with
  |none=>rw [q] at hi;cases hi
  |some y =>
   rw [q] at hi
   cases hi
   obtain ⟨us,hq,rs⟩:=si.get α H h R st ok
   obtain ⟨u,hu,ru⟩:=rs.get q
   refine ⟨⟨us,u,hq,hu⟩,fun x H' ⟨T,v,e0,hT,e1,e2⟩=>?_⟩
   subst e0 e1
   have:=(e2 us hq).symm.trans hu
   obtain rfl:=Option.some.inj this
   have e3:Ext α H α (upd H T (.tup [.int (i:Nat),v])):=Ext.new hT
   refine ⟨e3,R.new hT,.tup ⟨R.out hT,R.outP hT,upd_same⟩ (.cons ?_ (.cons (ru.mono e3) .nil))⟩
   rw [Int.zero_add];exact .int _
 ·obtain ⟨us,hq,rs⟩:=si.get α H h R st ok
  exact ⟨us,hq,by rw [enumD_length,rs.length]⟩
noncomputable def rangeD(lo:Int):Nat→List D
 |0=>[]
 |n + 1=>.int lo :: rangeD (lo + 1) n
theorem rangeD_get:∀ (lo:Int) (n i:Nat),(rangeD lo n)[i]?=if i < n then some (.int (lo + i)) else none
 |lo,0,i=>by simp [rangeD]
 |lo,n + 1,0=>by simp [rangeD]
 |lo,n + 1,i + 1=>by
  have:=rangeD_get (lo + 1) n i
  simp only [rangeD,List.getElem?_cons_succ,this,Nat.add_lt_add_iff_right]
  have e:lo + 1 + (i:Int)=lo + ((i + 1:Nat):Int):=by push_cast;omega
  rw [e]
theorem rangeD_length:∀ (lo:Int) (n:Nat),(rangeD lo n).length=n
 |_,0=>rfl
 |lo,n + 1=>by simp [rangeD,rangeD_length (lo + 1) n]
theorem it_range{K:PySem.W.Frag}{π α:List Addr}{H:Hp}{lo:Int}{n:Nat}:ItA K π α H (Itr lo n) ⟨rangeD lo n,[]⟩:=fun π' sub=>by
 refine ⟨fun _ _=>True,⟨fun _ _ _ _ _ _=>trivial,fun _ _ _ _ _ _ _=>trivial,fun α H h i d R st ok hi=>?_,fun α H h R st ok=>?_⟩,trivial⟩
 ·have hi:(rangeD lo n)[i]?=some d:=hi
  rw [rangeD_get] at hi
  split at hi
  ·rename_i hlt
   cases hi
   exact ⟨hlt,fun x H' ⟨e1,e2⟩=>by subst e1 e2;exact ⟨Ext.refl ..,R,.int _⟩⟩
  ·cases hi
 ·show n ≤ (rangeD lo n).length
  rw [rangeD_length];exact Nat.le_refl _
noncomputable def dISeq(f:DE):DI:=fun δ h Q=>f δ h fun d h1=>match seqSrc h1 d with | some S=>Q S h1 | none=>False
noncomputable def dIEnum(f:DA):DI:=fun δ h Q=>f δ h fun ds h1=>match ds with | [d]=>(match seqSrc h1 d with | some S=>Q ⟨enumD 0 S.items,S.w⟩ h1 | none=>False) | _=>False
noncomputable def dIRange(f:DA):DI:=fun δ h Q=>f δ h fun ds h1=>match ds with
 |[.int j]=>(-(2 ^ 62) ≤ j∧j < 2 ^ 62)∧Q ⟨rangeD 0 j.toNat,[]⟩ h1
 |[.int i,.int j]=>(-(2 ^ 62) ≤ i∧i < 2 ^ 62∧-(2 ^ 62) ≤ j∧j < 2 ^ 62)∧Q ⟨rangeD i (j - i).toNat,[]⟩ h1
 |_=>False
section
variable {X:Cx} {tg:Expr}
theorem PI.imp{e:Expr}{t t':TI}(h:PI X tg e t)(k:∀ σ H Q,t' σ H Q→t σ H Q):PI X tg e t':=fun pins s σ H Q I q=>h pins s σ H Q I (k σ H Q q)
noncomputable def iSeq(K:PySem.W.Frag)(tl:TE):TI:=fun σ H R=>tl σ H fun x H1=>∃ a,x = .ref a∧(((∃ xs,SqL K H1 a xs)∧R (Itl K a) H1)∨((∃ xs,SqT K H1 a xs)∧R (Itt K a) H1))
theorem pi_seq{l:Expr}{tl:TE}(hl:PE X l tl):PI X tg l (iSeq X.K tl):=by
 intro pins s σ H R I h
 refine thn (hl pins s σ H _ I h) fun v s1 zz0=>?_
 obtain ⟨x,H1,I1,r1,q1⟩:=zz0
 obtain ⟨a,e,⟨⟨xs,hq⟩,q⟩ | ⟨⟨xs,hq⟩,q⟩⟩:=q1
 ·subst e
  cases r1
  obtain ⟨its,rv,p,hz⟩:=I1.list hq
  refine wpAny_pyIter_list p.isList ?_
  refine ⟨s1.heap.objs.size,[s1.heap.objs.size],_,_,H1,rfl,I1.kept (t':=s1.toks) fun b o e=>Heap.get?_push_of_some _ e,turn_list a _,⟨_,Heap.get?_push_size _ rfl,rfl,rfl⟩,fun b hb=>?_,q⟩
  have e:b=s1.heap.objs.size:=by simpa using hb
  subst e
  exact I1.fpOk (Nat.le_refl _) (I1.hok.fresh (Nat.le_refl _))
 ·subst e
  cases r1
  obtain ⟨its,rv,p,hz⟩:=I1.tuple hq
  refine wpAny_pyIter_tuple (show s1.heap.IsTuple a its.toArray from p) ?_
  refine ⟨s1.heap.objs.size,[s1.heap.objs.size],_,_,H1,rfl,I1.kept (t':=s1.toks) fun b o e=>Heap.get?_push_of_some _ e,turn_tuple a _,⟨_,Heap.get?_push_size _ rfl,rfl,rfl⟩,fun b hb=>?_,q⟩
  have e:b=s1.heap.objs.size:=by simpa using hb
  subst e
  exact I1.fpOk (Nat.le_refl _) (I1.hok.fresh (Nat.le_refl _))
theorem si_seq{l:Expr}{f:DE}(hl:SE X l f):SI X tg l (dISeq f):=PI.imp (pi_seq hl) fun σ H Q zz0=>by
 obtain ⟨π,α,δ,h,Q',R,S,f,k⟩:=zz0
 refine ⟨π,α,δ,h,_,R,S,f,fun d h1 α1 H1 v1 f1 e1 R1 q1=>?_⟩
 cases q:seqSrc h1 d with
 |none=>rw [q] at f1;exact f1.elim
 |some Sr =>
  rw [q] at f1
  obtain ⟨a,rfl,ok,⟨hu,sa⟩ | ⟨hu,sa⟩⟩:=seqSrc_ok R1 q1 q
  ·exact ⟨a,rfl,.inl ⟨hu,k Sr h1 α1 H1 _ f1 e1 R1 (it_list sa) ok⟩⟩
  ·exact ⟨a,rfl,.inr ⟨hu,k Sr h1 α1 H1 _ f1 e1 R1 (it_tup sa) ok⟩⟩
noncomputable def iEnumS(K:PySem.W.Frag)(ta:TA):TI:=fun σ H R=>ta σ H fun vs H1=>∃ a,vs=[.ref a]∧(((∃ xs,SqL K H1 a xs)∧R (Ite fun H xs=>SqL K H a xs) H1)∨((∃ xs,SqT K H1 a xs)∧R (Ite fun H xs=>SqT K H a xs) H1))
theorem pi_enumS{a:Expr}{ta:TA}{p pos:Pos}(hg:Gl X "enumerate")(hm:X.mg "enumerate" = none)(ha:PA X [a] ta)(htg:∃ es x1 pos,tg = .Tuple es x1 pos:=by exact ⟨_,_,_,rfl⟩)(hs:starEach [a] X.env=[(false,eval a X.env)]:=by rfl):PI X tg (.Call (.Name "enumerate" p) [a] [] pos) (iEnumS X.K ta):=by
 intro pins s σ H R I h
 refine PyProof.Rows.Call_ (ld_blt I hg hm PyProof.Rows.boot_enumerate (PyProof.Rows.callWith_type1 (thn (ha pos pins s σ H _ I h) fun us s1 ⟨vs,H1,I1,r1,q1⟩=>?_) hs rfl))
 obtain ⟨a,e,⟨⟨xs,hq⟩,q⟩ | ⟨⟨xs,hq⟩,q⟩⟩:=q1
 ·subst e
  obtain ⟨u,rfl,ru⟩:=vals1 r1
  cases ru
  obtain ⟨its,rv,p,hz⟩:=I1.list hq
  exact call_enumerate_list p.isList fun h' he hit _ hk=>enum_fin htg I1 (src_list a _) he hit hk q
 ·subst e
  obtain ⟨u,rfl,ru⟩:=vals1 r1
  cases ru
  obtain ⟨its,rv,p,hz⟩:=I1.tuple hq
  exact call_enumerate_tuple (show s1.heap.IsTuple a its.toArray from p) fun h' he hit _ hk=>enum_fin htg I1 (src_tup a _) he hit hk q
theorem si_enum{a:Expr}{n:Nat}{fs:DA}{p pos:Pos}(hg:Gl X "enumerate")(hm:X.mg "enumerate" = none)(ha:SA X [a] n fs)(htg:∃ es x1 pos,tg = .Tuple es x1 pos:=by exact ⟨_,_,_,rfl⟩)(hs:starEach [a] X.env=[(false,eval a X.env)]:=by rfl):SI X tg (.Call (.Name "enumerate" p) [a] [] pos) (dIEnum fs):=PI.imp (pi_enumS hg hm ha htg hs) fun σ H Q zz0=>by
 obtain ⟨π,α,δ,h,Q',R,S,f,k⟩:=zz0
 refine ⟨π,α,δ,h,_,R,S,f,fun ds h1 α1 H1 vs f1 e1 R1 q1 l1=>?_⟩
 split at f1
 ·rename_i d
  obtain ⟨v,rfl,q3⟩:=q1.inv1
  cases q:seqSrc h1 d with
  |none=>rw [q] at f1;exact f1.elim
  |some Sr =>
   rw [q] at f1
   obtain ⟨a,rfl,ok,⟨hu,sa⟩ | ⟨hu,sa⟩⟩:=seqSrc_ok R1 q3 q
   ·exact ⟨a,rfl,.inl ⟨hu,k ⟨enumD 0 Sr.items,Sr.w⟩ h1 α1 H1 _ f1 e1 R1 (it_enum sa) ok⟩⟩
   ·exact ⟨a,rfl,.inr ⟨hu,k ⟨enumD 0 Sr.items,Sr.w⟩ h1 α1 H1 _ f1 e1 R1 (it_enum sa) ok⟩⟩
 ·exact f1.elim
theorem si_range1{a:Expr}{n:Nat}{fs:DA}{p pos:Pos}(hg:Gl X "range")(hm:X.mg "range" = none)(ha:SA X [a] n fs)(hs:starEach [a] X.env=[(false,eval a X.env)]:=by rfl)(hn:n=1:=by rfl):SI X tg (.Call (.Name "range" p) [a] [] pos) (dIRange fs):=PI.imp (pi_range1 hg hm ha hs) fun σ H Q zz0=>by
 obtain ⟨π,α,δ,h,Q',R,S,f,k⟩:=zz0
 refine ⟨π,α,δ,h,_,R,S,f,fun ds h1 α1 H1 vs f1 e1 R1 q1 l1=>?_⟩
 split at f1
 ·obtain ⟨v,rfl,q3⟩:=q1.inv1
  cases q3 with
  |int=>exact ⟨_,rfl,f1.1.1,f1.1.2,k _ h1 α1 H1 _ f1.2 e1 R1 it_range Src.ok_nil⟩
 ·subst hn;cases l1
 ·exact f1.elim
theorem si_range2{a b:Expr}{n:Nat}{fs:DA}{p pos:Pos}(hg:Gl X "range")(hm:X.mg "range" = none)(ha:SA X [a,b] n fs)(hs:starEach [a,b] X.env=[(false,eval a X.env),(false,eval b X.env)]:=by rfl)(hs2:starEach [b] X.env=[(false,eval b X.env)]:=by rfl)(hn:n=2:=by rfl):SI X tg (.Call (.Name "range" p) [a,b] [] pos) (dIRange fs):=PI.imp (pi_range2 hg hm ha hs hs2) fun σ H Q zz0=>by
 obtain ⟨π,α,δ,h,Q',R,S,f,k⟩:=zz0
 refine ⟨π,α,δ,h,_,R,S,f,fun ds h1 α1 H1 vs f1 e1 R1 q1 l1=>?_⟩
 split at f1
 ·subst hn;cases l1
 ·obtain ⟨v,v',rfl,q3,q4⟩:=q1.inv2
  cases q3 with
  |int i =>
   cases q4 with
   |int=>exact ⟨_,_,rfl,f1.1,k _ h1 α1 H1 _ f1.2 e1 R1 it_range Src.ok_nil⟩
 ·exact f1.elim
end
end DL
namespace DL
open PySem PySem.Spec L2
noncomputable def dCB(p:PN)(f:DA):DE:=fun δ h Q=>f δ h fun ds h1=>p ds h1 Q
theorem cb_lift{K:PySem.W.Frag}{p:PN}{n:Nat}{f:DA}{σ:L2.St}{H:Hp}{Q:VK}(g:LE K (dCB p f) σ H Q):LA K n f σ H fun vs H1=>rN K p vs H1 Q:=by
 obtain ⟨π,α,δ,h,Q',R,S,f,k⟩:=g
 exact ⟨π,α,δ,h,_,R,S,f,fun ds h1 α1 H1 vs f1 e1 R1 q1 l1=>⟨π,α1,h1,ds,Q',R1,q1,f1,fun d h' α' H' v a b c d'=>k d h' α' H' v a (e1.trans b) c d'⟩⟩
section
variable {X:Cx} {x:Str} {p pos:Pos} {e:Expr} {es:List Expr} {n:Nat} {f:DA} {id T:String} {r:PN}
theorem se_callB(hc:CallR X (.builtin id) (rN X.K r))(hg:Gl X x)(hm:X.mg x=none)(hv:bootBuiltins x=some (.builtin id))(ha:SA X (e :: es) n f)(hn:x ≠ "__name__":=by decide)(hdb:(x == ("__debug__":Str))=false:=by decide)
  (he:starEach (e :: es) X.env=(false,eval e X.env) :: starEach es X.env:=by rfl) (hpl:(backTo pos (starEach es X.env)).any (·.1)=false:=by rfl):SE X (.Call (.Name x p) (e :: es) [] pos) (dCB r f) :=
 PE.imp (pe_callB hc hg hm hv ha hn hdb he hpl) fun _ _ _ g=>cb_lift g
theorem se_callTy(hc:CallR X (.type T) (rN X.K r))(hg:Gl X x)(hm:X.mg x=none)(hv:bootBuiltins x=some (.type T))(ha:SA X (e :: es) n f)(hn:x ≠ "__name__":=by decide)(hdb:(x == ("__debug__":Str))=false:=by decide)
  (he:starEach (e :: es) X.env=(false,eval e X.env) :: starEach es X.env:=by rfl) (hpl:(backTo pos (starEach es X.env)).any (·.1)=false:=by rfl):SE X (.Call (.Name x p) (e :: es) [] pos) (dCB r f) :=
 PE.imp (pe_callTy hc hg hm hv ha hn hdb he hpl) fun _ _ _ g=>cb_lift g
noncomputable def lenD(h:Hh):D→Option Nat
 |.str x=>if x.length ≤ 16777216 then some x.length else none
 |d=>(seqOf h d).map List.length
noncomputable def pLen:PN:=fun ds h Q=>match ds with | [d]=>(match lenD h d with | some n=>Q (.int n) h | none=>False) | _=>False
theorem ok_len:CallR X (.builtin "len") (rN X.K pLen):=CallR.imp call_len fun xs H Q zz0=>by
 obtain ⟨π,α,h,ds,Q',R,rs,f,k⟩:=zz0
 unfold pLen at f
 split at f
 ·rename_i d
  obtain ⟨v,rfl,rd⟩:=rs.inv1
  cases q:lenD h d with
  |none=>rw [q] at f;exact f.elim
  |some n =>
   rw [q] at f
   refine ⟨v,n,rfl,?_,k _ h α H _ f (Ext.refl ..) R (.int _)⟩
   by_cases z:∃ x,d = .str x
   ·obtain ⟨x,rfl⟩:=z
    cases rd
    have q:(if x.length ≤ 16777216 then some x.length else none)=some n:=q
    split at q
    ·rename_i hl
     cases q
     exact ⟨by rw [sizeLine_eq];exact hl,rfl⟩
    ·cases q
   ·have q':(seqOf h d).map List.length=some n:=by
     cases d with
     |str x=>exact absurd ⟨x,rfl⟩ z
     |_=>exact q
    cases w:seqOf h d with
    |none=>rw [w] at q';cases q'
    |some ys =>
     rw [w] at q'
     cases q'
     obtain ⟨p,us,rfl,b,c⟩:=seqOf_sq R rd w
     rcases b with b | b
     ·exact .inl ⟨us,b,c.length⟩
     ·exact .inr ⟨us,b,c.length⟩
 ·exact f.elim
noncomputable def pTuple:PN:=fun ds h Q=>match ds with | [d]=>(match seqOf h d with | some xs=>Q (.tup xs) h | none=>False) | _=>False
theorem ok_tuple:CallR X (.type "tuple") (rN X.K pTuple):=CallR.imp call_tuple_of fun xs H Q zz0=>by
 obtain ⟨π,α,h,ds,Q',R,rs,f,k⟩:=zz0
 unfold pTuple at f
 split at f
 ·rename_i d
  obtain ⟨v,rfl,rd⟩:=rs.inv1
  cases w:seqOf h d with
  |none=>rw [w] at f;exact f.elim
  |some ys =>
   rw [w] at f
   by_cases z:∃ x,d = .tup x
   ·obtain ⟨x,rfl⟩:=z
    cases w
    cases rd with
    |tup t r=>exact ⟨_,_,rfl,.inr ⟨t.sq,k _ h α H _ f (Ext.refl ..) R (.tup t r)⟩⟩
   ·have w':lsOf h d=some ys:=by
     cases d with
     |tup x=>exact absurd ⟨x,rfl⟩ z
     |lst x=>exact w
     |scr x=>exact w
     |ref x=>exact w
     |_=>cases w
    obtain ⟨p,us,rfl,b,c⟩:=lsOf_sq R rd w'
    refine ⟨p,us,rfl,.inl ⟨b,fun l hl=>?_⟩⟩
    have e2:Ext α H α (upd H l (.tup us)):=Ext.new hl
    exact k _ h α _ _ f e2 (R.new hl) (.tup ⟨R.out hl,R.outP hl,upd_same⟩ (c.mono e2))
 ·exact f.elim
noncomputable def dListOf(f:DA):DN:=fun δ h Q=>f δ h fun ds h1=>match ds with | [d]=>(match seqOf h1 d with | some xs=>Q xs h1 | none=>False) | _=>False
theorem sn_list(hg:Gl X "list")(hm:X.mg "list" = none)(ha:SA X (e :: es) n f)(he:starEach (e :: es) X.env=(false,eval e X.env) :: starEach es X.env:=by rfl)(hpl:(backTo pos (starEach es X.env)).any (·.1)=false:=by rfl) :
  SN X (.Call (.Name "list" p) (e :: es) [] pos) (dListOf f):=PE.imp (pe_callTy call_list_of hg hm PyProof.Rows.boot_list ha (by decide) (by decide) he hpl) fun σ H Q ⟨π,α,δ,h,Q',R,S,f,k⟩=>by
 refine ⟨π,α,δ,h,_,R,S,f,fun ds h1 α1 H1 vs f1 e1 R1 q1 l1=>?_⟩
 split at f1
 ·rename_i d
  obtain ⟨v,rfl,rd⟩:=q1.inv1
  cases w:seqOf h1 d with
  |none=>rw [w] at f1;exact f1.elim
  |some ys =>
   rw [w] at f1
   obtain ⟨p,us,rfl,b,c⟩:=seqOf_sq R1 rd w
   exact ⟨p,us,rfl,b,fun l hl=>LN.last (h:=h) k f1 e1 R1 c hl⟩
 ·exact f1.elim
noncomputable def pInt:PN:=fun ds h Q=>match ds with | [.int i]=>Q (.int i) h | [.bl b]=>Q (.int (if b then 1 else 0)) h | _=>False
theorem ok_int:CallR X (.type "int") (rN X.K pInt):=CallR.imp call_int1 fun xs H Q zz0=>by
 obtain ⟨π,α,h,ds,Q',R,rs,f,k⟩:=zz0
 unfold pInt at f
 split at f
 ·obtain ⟨v,rfl,rd⟩:=rs.inv1
  cases rd
  exact .inl ⟨_,rfl,k _ h α H _ f (Ext.refl ..) R (.int _)⟩
 ·obtain ⟨v,rfl,rd⟩:=rs.inv1
  cases rd
  exact .inr ⟨_,rfl,k _ h α H _ f (Ext.refl ..) R (.int _)⟩
 ·exact f.elim
noncomputable def pMin:PN:=fun ds h Q=>match ds with | [.int i,.int j]=>Q (.int (if j < i then j else i)) h | _=>False
noncomputable def pMax:PN:=fun ds h Q=>match ds with | [.int i,.int j]=>Q (.int (if j > i then j else i)) h | _=>False
noncomputable def pAbs:PN:=fun ds h Q=>match ds with | [.int i]=>Q (.int (if i < 0 then -i else i)) h | _=>False
theorem ok_min(hc:X.calm=true):CallR X (.builtin "min") (rN X.K pMin):=CallR.imp (call_min2 hc) fun xs H Q zz0=>by
 obtain ⟨π,α,h,ds,Q',R,rs,f,k⟩:=zz0
 unfold pMin at f
 split at f
 ·obtain ⟨v,w,rfl,rd,re⟩:=rs.inv2
  cases rd;cases re
  exact ⟨_,_,rfl,k _ h α H _ f (Ext.refl ..) R (.int _)⟩
 ·exact f.elim
noncomputable def pAll:PN:=fun ds h Q=>∃ (d:D) (bs:List Bool),ds=[d]∧lsOf h d=some (bs.map D.bl)∧Q (.bl (bs.all fun b=>b)) h
theorem ok_all(hc:X.calm=true):CallR X (.builtin "all") (rN X.K pAll):=CallR.imp (call_all_bools hc) fun xs H Q zz0=>by
 obtain ⟨π,α,h,ds,Q',R,rs,f,k⟩:=zz0
 obtain ⟨d,ns,rfl,w,f⟩:=f
 obtain ⟨v,rfl,rd⟩:=rs.inv1
 obtain ⟨p,us,rfl,b,c⟩:=lsOf_sq R rd w
 cases c.bls_inv
 exact ⟨p,ns,rfl,b,k _ h α H _ f (Ext.refl ..) R (.bl _)⟩
end
section
variable {X:Cx} {o e:Expr} {fo fe:DE} {fs:DA} {n:Nat} {apos cpos:Pos}
noncomputable def dBits(fo:DE):DE:=fun δ h Q=>fo δ h fun d h1=>match d with | .int i=>Q (.int (Builtin.Int.intBits i:Nat)) h1 | _=>False
noncomputable def dAppend(fo:DE)(fs:DA):DE:=fun δ h Q=>fo δ h fun d h1=>match d with
 |.ref i=>(match h1[i]? with
  |some (.lst _)=>fs δ h1 fun ds h2=>(match ds,h2[i]? with
   |[v],some (.lst ys)=>ys.length < 16777216∧Q .non (h2.set i (.lst (ys ++ [v])))
   |_,_=>False)
  |_=>False)
 |_=>False
theorem refL{K:PySem.W.Frag}{π α:List Addr}{H:Hp}{h:Hh}(R:HRel ⟨K,π⟩ α H h){i:Nat}{a:Addr}{xs:List D}(hp:α[i]?=some a)(w:h[i]?=some (.lst xs)):∃ us,H a=some (.lst us)∧RelDs ⟨K,π⟩ α H xs us:=by
 obtain ⟨p,us,e1,e2,e3⟩:=R.lst w
 rw [hp] at e1;cases e1
 exact ⟨us,e2,e3⟩
theorem se_append(ho:SE X o fo)(ha:SA X [e] n fs)(hbase:attributeBase o "append" X.env (eval o X.env)=eval o X.env:=by rfl)
  (hfew:((backTo cpos (starEach [e] X.env)).all (fun x=>!x.1) && (backToKw cpos (keywordEach [] X.env)).all (fun x=>x.1.isSome)
   && decide ([e].length + ([]:List Keyword).length + (if ([]:List Keyword).isEmpty then 0 else 1) < 30))=true:=by rfl)
  (hline:(apos.endLine == cpos.line)=true:=by rfl) (hs:starEach [e] X.env=(false,eval e X.env) :: starEach [] X.env:=by rfl) (hplain:(backTo cpos (starEach [] X.env)).any (·.1)=false:=by rfl) :
  SE X (.Call (.Attribute o "append" apos) [e] [] cpos) (dAppend fo fs) :=
 PE.imp (pe_bm PySem.F.plainAttrs_list PySem.F.slot_list_append PySem.F.type_list_append mt_append ho ha hbase hfew hline hs hplain) fun σ H Q zz0=>by
  obtain ⟨π,α,δ,h,Q',R,S,f,k⟩:=zz0
  refine ⟨π,α,δ,h,_,R,S,f,fun d h1 α1 H1 v1 f1 e1 R1 q1=>?_⟩
  cases q1 with
  |@ref i a hp =>
   dsimp only at f1
   cases w:h1[i]? with
   |none=>rw [w] at f1;exact f1.elim
   |some ob =>
    rw [w] at f1
    cases ob with
    |lst xs =>
     obtain ⟨us,e2,e3⟩:=refL R1 hp w
     refine ⟨.inl ⟨rfl,us,SqL.of e2⟩,π,α1,δ,h1,_,R1,S.mono e1,f1,fun ds h2 α2 H2 vs f2 e2 R2 q2 l2=>?_⟩
     split at f2
     ·rename_i v ys w2
      obtain ⟨u,rfl,q9⟩:=q2.inv1
      have hp2:=e2.get hp
      obtain ⟨us2,g2,g3⟩:=refL R2 hp2 w2
      have e4:Ext α2 H2 α2 (upd H2 a (.lst (us2 ++ [u]))):=Ext.write (List.mem_of_getElem? hp2)
      exact ⟨a,us2,u,rfl,rfl,g2,by rw [← g3.length,sizeLine_eq];exact f2.1,k _ _ α2 _ _ f2.2 (e1.trans (e2.trans e4)) (R2.write hp2 (.lst upd_same ((g3.snoc q9).mono e4))) .non⟩
     ·exact f2.elim
    |_=>exact f1.elim
  |_=>exact f1.elim
noncomputable def dPop(fo:DE):DE:=fun δ h Q=>fo δ h fun d h1=>match d with
 |.ref i=>(match h1[i]? with
  |some (.lst xs)=>(match xs[xs.length - 1]? with | some y=>Q y (h1.set i (.lst xs.dropLast)) | none=>False)
  |_=>False)
 |_=>False
noncomputable def dClear(fo:DE):DE:=fun δ h Q=>fo δ h fun d h1=>match d with
 |.ref i=>(match h1[i]? with | some (.lst _)=>Q .non (h1.set i (.lst [])) | _=>False)
 |_=>False
theorem se_clear(ho:SE X o fo)(hbase:attributeBase o "clear" X.env (eval o X.env)=eval o X.env:=by rfl)(hline:(apos.endLine == cpos.line)=true:=by rfl):SE X (.Call (.Attribute o "clear" apos) [] [] cpos) (dClear fo) :=
 PE.imp (pe_bm0 PySem.F.plainAttrs_list PySem.F.slot_list_clear PySem.F.type_list_clear mt_clear ho hbase hline) fun σ H Q zz0=>by
  obtain ⟨π,α,δ,h,Q',R,S,f,k⟩:=zz0
  refine ⟨π,α,δ,h,_,R,S,f,fun d h1 α1 H1 v1 f1 e1 R1 q1=>?_⟩
  cases q1 with
  |@ref i a hp =>
   dsimp only at f1
   cases w:h1[i]? with
   |none=>rw [w] at f1;exact f1.elim
   |some ob =>
    rw [w] at f1
    cases ob with
    |lst xs =>
     obtain ⟨us,e2,e3⟩:=refL R1 hp w
     have e4:Ext α1 H1 α1 (upd H1 a (.lst [])):=Ext.write (List.mem_of_getElem? hp)
     exact ⟨.inl ⟨rfl,us,SqL.of e2⟩,a,us,rfl,rfl,e2,k _ _ α1 _ _ f1 (e1.trans e4) (R1.write hp (.lst upd_same .nil)) .non⟩
    |_=>exact f1.elim
  |_=>exact f1.elim
end
noncomputable abbrev DSp:=List D→Hh→DK→Prop
inductive spD(K:PySem.W.Frag)(n:Nat)(g:DSp)(vs:List V)(H:Hp)(Q:VK)(X9:XK):Prop
 |mk (π:List Addr) (α:List Addr) (h:Hh) (ds:List D) (Q':DK):HRel ⟨K,π⟩ α H h→RelDs ⟨K,π⟩ α H ds vs→ds.length=n→g ds h Q'→(∀ d h' α' H' v,Q' d h'→Ext α H α' H'→HRel ⟨K,π⟩ α' H' h'→RelD ⟨K,π⟩ α' H' d v→Q v H')→spD K n g vs H Q X9
noncomputable def dCal(g:DSp)(f:DA):DE:=fun δ h Q=>f δ h fun ds h1=>g ds h1 Q
section
variable {X:Cx} {k m:Nat} {ps:List Str} {g:DSp} {x:Str} {p pos:Pos} {e:Expr} {es:List Expr} {n:Nat} {f:DA}
theorem se_cal(c:Cal X.prog X.w X.K X.mg X.base k x ps (spD X.K m g))(hr:Room k X.A)(hg:Gl X x)(ha:SA X (e :: es) n f)(hn:n=m:=by rfl)(hdb:(x == ("__debug__":Str))=false:=by decide)
  (he:starEach (e :: es) X.env=(false,eval e X.env) :: starEach es X.env:=by rfl) (hpl:(backTo pos (starEach es X.env)).any (·.1)=false:=by rfl):SE X (.Call (.Name x p) (e :: es) [] pos) (dCal g f) :=
 PE.imp (pe_cal c hr hg ha hdb he hpl) fun σ H Q zz0=>by
  obtain ⟨π,α,δ,h,Q',R,S,f,k⟩:=zz0
  refine ⟨π,α,δ,h,_,R,S,f,fun ds h1 α1 H1 vs f1 e1 R1 q1 l1=>?_⟩
  show spD X.K m g (vs ++ []) H1 Q E0
  rw [List.append_nil]
  exact ⟨π,α1,h1,ds,Q',R1,q1,l1.trans hn,f1,fun d h' α' H' v a b c d'=>k d h' α' H' v a (e1.trans b) c d'⟩
end
noncomputable def runD(n:Nat)(b:DS):DSp:=fun ds h Q=>b { nx:=fun _ h'=>Q .non h',rt:=Q } (ds.map some ++ List.replicate (n - ds.length) none) h
theorem relS_start{K:KP}{α:List Addr}{H:Hp}{ds:List D}{vs:List V}{N:List Str}(r:RelDs K α H ds vs):RelS K α H (ds.map some ++ List.replicate (N.length - ds.length) none) (L2.start N vs):=by
 refine ⟨by unfold L2.start;simp [r.length],fun i d e=>?_⟩
 by_cases hi:i < ds.length
 ·rw [List.getElem?_append_left (by simpa using hi),List.getElem?_map] at e
  cases q:ds[i]? with
  |none=>rw [q] at e;cases e
  |some z =>
   rw [q] at e
   cases e
   obtain ⟨u,h1,h2⟩:=r.get q
   refine ⟨u,?_,h2⟩
   unfold L2.start
   rw [List.getElem?_append_left (by rw [List.length_map,← r.length];exact hi),List.getElem?_map,h1];rfl
 ·rw [List.getElem?_append_right (by simpa using hi),List.getElem?_replicate] at e
  split at e <;> cases e
section
variable {P:Program} {w:World} {K:PySem.W.Frag} {mg:Str→Option Value} {base:Heap}
theorem fn_ok{x qual:Str}{st:Stmt}{f:Addr}{fd:FuncData}{N ps:List Str}{k:Nat}{b:DS}{g:DSp}(F:Fun K x qual st f fd)(S:FnScope N ps (defScope st))
  (hb:∀ (cdv:Value) (A:Around) (outer:List Env) (s:Shared) (H:Hp) (E:XK),Room k (A.deeper (PyProof.Rows.envOfC qual (defScope st) s.heap.objs.size f cdv))→SSs (cxOf CX0 P w K mg base N qual (defScope st) f cdv A outer s H E).nox (defBody st) b)
  (hg:∀ ds h Q,g ds h Q→runD N.length b ds h Q):FnOk P w K mg base CX0 (k + 1) f fd ps (spD K ps.length g):=by
 refine F.ok S (fun vs H Q E h=>?_) fun cdv A outer s H vs Q E hr h=>?_
 ·obtain ⟨π,α,h,ds,Q',R,r,l,_⟩:=h
  rw [← r.length,l]
 ·obtain ⟨π,α,h,ds,Q',R,r,l,q,kk⟩:=h
  refine ⟨_,hb cdv A outer s H E hr,π,α,_,h,{ nx:=fun _ h'=>Q' .non h',rt:=Q' },R,relS_start r,hg ds h Q' q,⟨fun _ h' α' H' σ' a b c _=>kk .non h' α' H' .non a b c .non,fun d h' α' H' v a b c d'=>kk d h' α' H' v a b c d',fun _ _ _ _ _ a _ _ _=>a.elim,fun _ _ _ _ _ a _ _ _=>a.elim,fun _ _ _ _ _ _ _ a _ _ _=>a.elim⟩⟩
end
end DL
namespace DL
open PySem PySem.Spec L2
noncomputable def lsP(h:Hh):D→Option (List D)
 |.lst xs=>some xs
 |.ref i=>match h[i]? with | some (.lst xs)=>some xs | _=>none
 |_=>none
theorem lsP_sq{K:KP}{α:List Addr}{H:Hp}{h:Hh}(R:HRel K α H h){d:D}{v:V}{xs:List D}(r:RelD K α H d v)(e:lsP h d=some xs):∃ p us,v = .ref p∧H p=some (.lst us)∧RelDs K α H xs us:=by
 cases r with
 |lst t r=>cases e;exact ⟨_,_,rfl,t.2.2,r⟩
 |@ref i a hp =>
  have e:(match h[i]? with | some (.lst xs)=>some xs | _=>none)=some xs:=e
  cases q:h[i]? with
  |none=>rw [q] at e;cases e
  |some o =>
   rw [q] at e
   cases o with
   |lst ys =>
    cases e
    obtain ⟨p,us,e1,e2,e3⟩:=R.lst q
    rw [hp] at e1;cases e1
    exact ⟨_,us,rfl,e2,e3⟩
   |_=>cases e
 |_=>cases e
noncomputable def pPlus:P2:=fun x y h Q=>match lsP h x,lsP h y with
 |some xs,some ys=>xs.length + ys.length ≤ 16777216∧Q (.lst (xs ++ ys)) h
 |_,_=>pAdd x y h Q
section
variable {X:Cx}
theorem ok_plus:OpR X (binaryOp .Add) (r2 X.K pPlus):=OpR.imp (op_cat.or ok_add) fun x y H Q zz0=>by
 obtain ⟨π,α,h,d,e,Q',R,r1,r2,f,k⟩:=zz0
 unfold pPlus at f
 cases w:lsP h d with
 |none=>rw [w] at f;exact .inr ⟨π,α,h,d,e,Q',R,r1,r2,f,k⟩
 |some xs =>
  cases w':lsP h e with
  |none=>rw [w,w'] at f;exact .inr ⟨π,α,h,d,e,Q',R,r1,r2,f,k⟩
  |some ys =>
   rw [w,w'] at f
   obtain ⟨p,us,rfl,b,c⟩:=lsP_sq R r1 w
   obtain ⟨p',us',rfl,b',c'⟩:=lsP_sq R r2 w'
   refine .inl ⟨p,p',us,us',rfl,rfl,b,b',by rw [← c.length,← c'.length,sizeLine_eq];exact f.1,fun l hl=>?_⟩
   have e2:Ext α H α (upd H l (.lst (us ++ us'))):=Ext.new hl
   exact k _ h α _ _ f.2 e2 (R.new hl) (.lst ⟨R.out hl,R.outP hl,upd_same⟩ ((c.append c').mono e2))
noncomputable def dCatN(fa fb:DE):DN:=fun δ h Q=>fa δ h fun x h1=>fb δ h1 fun y h2=>match lsP h2 x,lsP h2 y with
 |some xs,some ys=>xs.length + ys.length ≤ 16777216∧Q (xs ++ ys) h2
 |_,_=>False
theorem rel_rep{K:KP}{α:List Addr}{H:Hp}{ds:List D}{us:List V}(r:RelDs K α H ds us):∀ n:Nat,RelDs K α H (List.replicate n ds).flatten (List.replicate n us).flatten
 |0=>.nil
 |n + 1=>by rw [List.replicate_succ,List.replicate_succ,List.flatten_cons,List.flatten_cons];exact r.append (rel_rep r n)
noncomputable def dRepN(fa fb:DE):DN:=fun δ h Q=>fa δ h fun x h1=>fb δ h1 fun y h2=>match lsP h2 x,y with
 |some xs,.int n=>(-(2 ^ 63) ≤ n∧n < 2 ^ 63∧xs.length * n.toNat ≤ 16777216)∧Q (List.replicate n.toNat xs).flatten h2
 |_,_=>False
theorem sn_rep{a b:Expr}{fa fb:DE}{pos:Pos}(ha:SE X a fa)(hb:SE X b fb):SN X (.BinOp a .Mult b pos) (dRepN fa fb):=PE.imp (pe_op op_rep ha hb) fun σ H Q zz0=>by
 obtain ⟨π,α,δ,h,Q',R,S,f,k⟩:=zz0
 refine ⟨π,α,δ,h,_,R,S,f,fun x h1 α1 H1 v1 f1 e1 R1 q1=>?_⟩
 refine ⟨π,α1,δ,h1,_,R1,S.mono e1,f1,fun y h2 α2 H2 v2 f2 e2 R2 q2=>?_⟩
 split at f2
 ·rename_i xs n w
  cases q2
  obtain ⟨p,us,rfl,b,c⟩:=lsP_sq R2 (q1.mono e2) w
  exact ⟨p,n,us,rfl,rfl,b,f2.1.1,f2.1.2.1,by rw [← c.length,sizeLine_eq];exact f2.1.2.2,fun l hl=>LN.last (h:=h) k f2.2 (e1.trans e2) R2 (rel_rep c _) hl⟩
 ·exact f2.elim
theorem op_mulB:OpR X (binaryOp .Mult) (rI IntMulOk fun i j=>.int (i * j)):=opI fun _ _ _ _ _ _ _ hc q=>PyProof.Rows.mul_int q hc
noncomputable def pMulI:P2:=pI IntMulOk fun i j=>i * j
theorem ok_timesI:OpR X (binaryOp .Mult) (r2 X.K pMulI):=pI_ok op_mulB
noncomputable def pMul:P2:=fun x y h Q=>match x,y with
 |.int i,.int j=>IntMulOk i j∧Q (.int (i * j)) h
 |.tup xs,.int n=>(xs ≠ []∧xs.length ≤ 10∧1 ≤ n∧n < 100)∧Q (.tup (List.replicate n.toNat xs).flatten) h
 |x,.int n=>(match lsP h x with | some xs=>(-(2 ^ 63) ≤ n∧n < 2 ^ 63∧xs.length * n.toNat ≤ 16777216)∧Q (.lst (List.replicate n.toNat xs).flatten) h | none=>False)
 |_,_=>False
noncomputable def dSl(fe:DE)(fl fh:DO):DE:=fun δ h Q=>fe δ h fun d h1=>fl δ h1 fun l h2=>fh δ h2 fun u h3=>match d with
 |.tup xs=>Q (.tup (cutD xs l u)) h3
 |d=>match lsOf h3 d with | some xs=>Q (.lst (cutD xs l u)) h3 | none=>False
theorem se_sl{e:Expr}{fe:DE}{lo hi:Option Expr}{fl fh:DO}{pos p2:Pos}(he:SE X e fe)(hl:SO X lo fl)(hu:SO X hi fh):SE X (.Subscript e (.Slice lo hi none p2) pos) (dSl fe fl fh):=PE.imp (pe_slice (sl_tupD.or sl_list) he hl hu) fun σ H Q zz0=>by
 obtain ⟨π,α,δ,h,Q',R,S,f,k⟩:=zz0
 refine ⟨π,α,δ,h,_,R,S,f,fun d h1 α1 H1 v1 f1 e1 R1 q1=>?_⟩
 refine ⟨π,α1,δ,h1,_,R1,S.mono e1,f1,fun l h2 α2 H2 f2 e2 R2=>?_⟩
 refine ⟨π,α2,δ,h2,_,R2,S.mono (e1.trans e2),f2,fun u h3 α3 H3 f3 e3 R3=>?_⟩
 have q3:=(q1.mono e2).mono e3
 split at f3
 ·cases q3 with
  |@tup a us ds t r =>
   refine .inl ⟨a,us,rfl,t.sq,fun z=>?_,fun p hp=>?_⟩
   ·have c:=cut_rel r l u
    rw [z] at c
    exact k _ h3 α3 H3 _ f3 (e1.trans (e2.trans e3)) R3 (.tup t c)
   ·have e4:Ext α3 H3 α3 (upd H3 p (.tup (cutV us l u))):=Ext.new hp
    exact k _ h3 α3 _ _ f3 (e1.trans (e2.trans (e3.trans e4))) (R3.new hp) (.tup ⟨R3.out hp,R3.outP hp,upd_same⟩ ((cut_rel r l u).mono e4))
 ·split at f3
  ·rename_i xs w
   obtain ⟨p,us,rfl,b,c⟩:=lsOf_sq R3 q3 w
   refine .inr ⟨p,us,rfl,b,fun l' hl=>?_⟩
   have e4:Ext α3 H3 α3 (upd H3 l' (.lst (cutV us l u))):=Ext.new hl
   exact k _ h3 α3 _ _ f3 (e1.trans (e2.trans (e3.trans e4))) (R3.new hl) (.lst ⟨R3.out hl,R3.outP hl,upd_same⟩ ((cut_rel c l u).mono e4))
  ·exact f3.elim
noncomputable def dExtend(fo:DE)(fs:DA):DE:=fun δ h Q=>fo δ h fun d h1=>match d with
 |.ref i=>(match h1[i]? with
  |some (.lst _)=>fs δ h1 fun ds h2=>(match ds,h2[i]? with
   |[v],some (.lst ys)=>(match lsP h2 v with | some zs=>ys.length + zs.length ≤ 16777216∧Q .non (h2.set i (.lst (ys ++ zs))) | none=>False)
   |_,_=>False)
  |_=>False)
 |_=>False
theorem se_extend{o e:Expr}{fo:DE}{fs:DA}{n:Nat}{apos cpos:Pos}(ho:SE X o fo)(ha:SA X [e] n fs)(hbase:attributeBase o "extend" X.env (eval o X.env)=eval o X.env:=by rfl)
  (hfew:((backTo cpos (starEach [e] X.env)).all (fun x=>!x.1) && (backToKw cpos (keywordEach [] X.env)).all (fun x=>x.1.isSome)
   && decide ([e].length + ([]:List Keyword).length + (if ([]:List Keyword).isEmpty then 0 else 1) < 30))=true:=by rfl)
  (hline:(apos.endLine == cpos.line)=true:=by rfl) (hs:starEach [e] X.env=(false,eval e X.env) :: starEach [] X.env:=by rfl) (hplain:(backTo cpos (starEach [] X.env)).any (·.1)=false:=by rfl) :
  SE X (.Call (.Attribute o "extend" apos) [e] [] cpos) (dExtend fo fs) :=
 PE.imp (pe_bm PySem.F.plainAttrs_list PySem.F.slot_list_extend PySem.F.type_list_extend mt_extend ho ha hbase hfew hline hs hplain) fun σ H Q zz0=>by
  obtain ⟨π,α,δ,h,Q',R,S,f,k⟩:=zz0
  refine ⟨π,α,δ,h,_,R,S,f,fun d h1 α1 H1 v1 f1 e1 R1 q1=>?_⟩
  cases q1 with
  |@ref i a hp =>
   dsimp only at f1
   cases w:h1[i]? with
   |none=>rw [w] at f1;exact f1.elim
   |some ob =>
    rw [w] at f1
    cases ob with
    |lst xs =>
     obtain ⟨us,e2,e3⟩:=refL R1 hp w
     refine ⟨.inl ⟨rfl,us,SqL.of e2⟩,π,α1,δ,h1,_,R1,S.mono e1,f1,fun ds h2 α2 H2 vs f2 e2 R2 q2 l2=>?_⟩
     split at f2
     ·rename_i v ys w2
      obtain ⟨u,rfl,q9⟩:=q2.inv1
      split at f2
      ·rename_i zs w3
       have hp2:=e2.get hp
       obtain ⟨us2,g2,g3⟩:=refL R2 hp2 w2
       obtain ⟨b,us3,rfl,g4,g5⟩:=lsP_sq R2 q9 w3
       have e4:Ext α2 H2 α2 (upd H2 a (.lst (us2 ++ us3))):=Ext.write (List.mem_of_getElem? hp2)
       exact ⟨a,b,us2,us3,rfl,rfl,g2,g4,by rw [← g3.length,← g5.length,sizeLine_eq];exact f2.1,k _ _ α2 _ _ f2.2 (e1.trans (e2.trans e4)) (R2.write hp2 (.lst upd_same ((g3.append g5).mono e4))) .non⟩
      ·exact f2.elim
     ·exact f2.elim
    |_=>exact f1.elim
  |_=>exact f1.elim
noncomputable def kindD(h:Hh):D→Option String
 |.non=>some "NoneType"
 |.bl _=>some "bool"
 |.int _=>some "int"
 |.str _=>some "str"
 |.tup _=>some "tuple"
 |.lst _=>some "list"
 |.ref i=>match h[i]? with | some (.lst _)=>some "list" | some (.dT none _)=>some "dict" | some (.dK _)=>some "dict" | _=>none
 |_=>none
noncomputable def isKind(t T:String):Bool:=t == T || (t == "bool" && T == "int")
theorem kit_of{K:PySem.W.Frag}{t T:String}(ht:t ∈ ["NoneType","bool","int","str","tuple","list","dict"])(hT:T ∈ ["bool","int","str","tuple","list","dict"]):PySem.W.kitOne K (.type t) (.type T)=some (isKind t T):=by
 simp only [List.mem_cons,List.not_mem_nil,or_false] at ht hT
 rcases ht with rfl | rfl | rfl | rfl | rfl | rfl | rfl <;> rcases hT with rfl | rfl | rfl | rfl | rfl | rfl <;> rfl
noncomputable def dIsinst(T:String)(fa:DE):DE:=fun δ h Q=>fa δ h fun d h1=>match kindD h1 d with | some t=>Q (.bl (isKind t T)) h1 | none=>False
theorem kind_in{h:Hh}{d:D}{t:String}(e:kindD h d=some t):t ∈ ["NoneType","bool","int","str","tuple","list","dict"]:=by
 unfold kindD at e
 split at e
 all_goals first | (cases e;done) | (cases e;decide) | skip
 split at e
 all_goals first | (cases e;done) | (cases e;decide)
theorem call_isinstD{T:String}:CallR X (.builtin "isinstance") (fun xs H Q=>∃ x t b,xs=[x,.ty T]∧(TyOf X.K H x t∨(t = .type "tuple"∧∃ a us,x = .ref a∧SqT X.K H a us))∧PySem.W.kitOne X.K t (.type T)=some b∧Q (.bl b) H):=by
 intro pins s σ H xs us Q I r h
 obtain ⟨x,t,b,rfl,ty,e,q⟩:=h
 obtain ⟨u,w',rfl,ru,rw'⟩:=vals2 r
 cases rw'
 rcases ty with ty | ⟨rfl,a,us,rfl,hq⟩
 ·exact isinst_ok I ru ty e fun tk=>⟨.bl b,H,I.tok _,rfl,q⟩
 ·cases ru
  obtain ⟨its,rv,⟨o,h1,h2,_⟩,_⟩:=I.tuple hq
  exact PySem.W.kia_one PySem.W.kitx_tuple I.kIn ⟨o,h1,h2⟩ e (fun z=>nomatch z) fun tk=>⟨.bl b,H,I.tok _,rfl,q⟩
theorem kind_ty{K:PySem.W.Frag}{π α:List Addr}{H:Hp}{h:Hh}{d:D}{v:V}{t:String}(R:HRel ⟨K,π⟩ α H h)(r:RelD ⟨K,π⟩ α H d v)(e:kindD h d=some t):TyOf K H v (.type t)∨(Value.type t = .type "tuple"∧∃ a us,v = .ref a∧SqT K H a us):=by
 cases r with
 |non=>cases e;exact .inl .non
 |bl b=>cases e;exact .inl (.bl b)
 |int i=>cases e;exact .inl (.int i)
 |str x=>cases e;exact .inl (.str x)
 |tup t r=>cases e;exact .inr ⟨rfl,_,_,rfl,t.sq⟩
 |lst t r=>cases e;exact .inl (.lst t.2.2)
 |scr t r=>cases e
 |exc _ _ _=>cases e
 |@ref i a hp =>
  have e:(match h[i]? with | some (.lst _)=>some "list" | some (.dT none _)=>some "dict" | some (.dK _)=>some "dict" | _=>none)=some t:=e
  cases q:h[i]? with
  |none=>rw [q] at e;cases e
  |some o =>
   rw [q] at e
   cases o with
   |lst ys =>
    cases e
    obtain ⟨us,e2,e3⟩:=refL R hp q
    exact .inl (.lst e2)
   |dT z ys =>
    cases z with
    |none =>
     cases e
     obtain ⟨p,us,e1,e2,e3⟩:=R.dT q
     rw [hp] at e1;cases e1
     exact .inl (.dT e2)
    |some o=>cases e
   |dK ys =>
    cases e
    obtain ⟨p,us,e1,e2,e3⟩:=R.dK q
    rw [hp] at e1;cases e1
    exact .inl (.dK e2)
   |ins C fs=>cases e
theorem se_isinst{T:String}{a:Expr}{fa:DE}{x:Str}{p p2 pos:Pos}(hT:T ∈ ["bool","int","str","tuple","list","dict"])(hg:Gl X "isinstance")(hm:X.mg "isinstance" = none)(ha:SE X a fa)(ht:PE X (.Name x p2) (tC (.ty T)))
  (he:starEach [a,.Name x p2] X.env=(false,eval a X.env) :: starEach [.Name x p2] X.env:=by rfl) (he2:starEach [.Name x p2] X.env=(false,eval (.Name x p2) X.env) :: starEach [] X.env:=by rfl) (hpl:(backTo pos (starEach [.Name x p2] X.env)).any (·.1)=false:=by rfl) :
  SE X (.Call (.Name "isinstance" p) [a,.Name x p2] [] pos) (dIsinst T fa):=PE.imp (pe_callB call_isinstD hg hm PyProof.Rows.boot_isinstance (pa_cons ha (pa_cons ht pa_nil he2) he) (by decide) (by decide) he hpl) fun σ H Q ⟨π,α,δ,h,Q',R,S,f,k⟩=>by
 refine ⟨π,α,δ,h,_,R,S,f,fun d h1 α1 H1 v1 f1 e1 R1 q1=>?_⟩
 split at f1
 ·rename_i t w
  exact ⟨v1,.type t,_,rfl,kind_ty R1 q1 w,kit_of (kind_in w) hT,k _ h1 α1 H1 _ f1 e1 R1 (.bl _)⟩
 ·exact f1.elim
noncomputable def flatD:D→Bool
 |.non=>true
 |.bl _=>true
 |.int _=>true
 |.str _=>true
 |_=>false
noncomputable def eqF:D→D→Bool
 |.non,.non=>true
 |.bl a,.bl b=>a == b
 |.bl a,.int b=>(if a then 1 else 0) == b
 |.int a,.bl b=>a == (if b then 1 else 0)
 |.int a,.int b=>a == b
 |.str a,.str b=>a == b
 |_,_=>false
noncomputable def inF(x:D)(xs:List D):Bool:=xs.any fun y=>eqF y x
theorem flat_rel{K:KP}{α:List Addr}{H:Hp}{d:D}{v:V}(r:RelD K α H d v):flatV v=flatD d:=by cases r <;> rfl
theorem flats_rel{K:KP}{α:List Addr}{H:Hp}:∀ {ds:List D} {vs:List V},RelDs K α H ds vs→vs.all flatV=ds.all flatD
 |_,_,.nil=>rfl
 |_,_,.cons r t=>by rw [List.all_cons,List.all_cons,flat_rel r,flats_rel t]
theorem eqF_rel{K:KP}{α:List Addr}{H:Hp}{d e:D}{v u:V}(r:RelD K α H d v)(s:RelD K α H e u):eqV v u=eqF d e:=by
 cases r <;> cases s <;> rfl
theorem inF_rel{K:KP}{α:List Addr}{H:Hp}{d:D}{v:V}(r:RelD K α H d v):∀ {ds:List D} {vs:List V},RelDs K α H ds vs→inV v vs=inF d ds
 |_,_,.nil=>rfl
 |_,_,.cons s t=>by
  have:=inF_rel r t
  unfold inV inF at this ⊢
  rw [List.any_cons,List.any_cons,this,eqF_rel s r]
noncomputable def pIn(neg:Bool):P2:=fun x y h Q=>match seqOf h y with
 |some xs=>(flatD x && xs.all flatD)=true∧Q (.bl (if neg then !inF x xs else inF x xs)) h
 |none=>False
theorem pIn_r{neg:Bool}{x y:V}{H:Hp}{Q:VK}(g:r2 X.K (pIn neg) x y H Q):rIn X.K neg x y H Q:=by
 obtain ⟨π,α,h,d,e,Q',R,r1,r2,f,k⟩:=g
 unfold pIn at f
 split at f
 ·rename_i xs w
  obtain ⟨p,us,rfl,b,c⟩:=seqOf_sq R r2 w
  obtain ⟨f1,f2⟩:=f
  rw [Bool.and_eq_true] at f1
  refine ⟨p,us,rfl,b,by rw [flat_rel r1];exact f1.1,by rw [flats_rel c];exact f1.2,k _ h α H _ f2 (Ext.refl ..) R ?_⟩
  rw [inF_rel r1 c];exact .bl _
 ·exact f.elim
theorem ok_in:OpR X (compareOp .In) (r2 X.K (pIn false)):=OpR.imp op_in_seq fun _ _ _ _ g=>pIn_r g
theorem ok_notin:OpR X (compareOp .NotIn) (r2 X.K (pIn true)):=OpR.imp op_notIn_seq fun _ _ _ _ g=>pIn_r g
end
end DL
namespace DL
open PySem PySem.Spec L2
section
variable {X:Cx}
noncomputable def intsOf:List D→Option (List Int)
 |[]=>some []
 |.int i :: r=>(intsOf r).map (i :: ·)
 |_ :: _=>none
noncomputable def pLt:P2:=fun x y h Q=>match x,y with
 |.int i,.int j=>Q (.bl (decide (i < j))) h
 |.tup a,.tup b=>(match intsOf a,intsOf b with | some ns,some ms=>Q (.bl (HT.lexLt ns ms)) h | _,_=>False)
 |.str a,.str b=>Q (.bl (decide (a.cps.toList < b.cps.toList))) h
 |_,_=>False
noncomputable def keyS:D→Option Key
 |.int i=>some (.inl i)
 |.str x=>some (.inr x)
 |_=>none
noncomputable def lkG(kvs:List (Key×Int))(k:Key):Option Int:=(kvs.find? fun kv=>decide (kv.1=k)).map (·.2)
noncomputable def dGet(kvs:List (Key×Int))(fi:DE):DE:=fun δ h Q=>fi δ h fun d h1=>match (keyS d).bind fun k=>lkG kvs k with | some v=>Q (.int v) h1 | none=>False
noncomputable def dIEnum1(f:DA):DI:=fun δ h Q=>f δ h fun ds h1=>match ds with | [d]=>(match d with | .tup _=>False | d=>match seqSrc h1 d with | some S=>Q ⟨enumD 1 S.items,S.w⟩ h1 | none=>False) | _=>False
end
end DL
namespace Att
open PySem PySem.W PySem.Calls PyProof.Rows
theorem bits_weight:∀ (ns:List Int) (x:Int),x ∈ ns→Builtin.Int.intBits x ≤ WData.weightAll (ns.map WData.int)
 |n :: r,x,h=>by
  rw [List.map_cons]
  show _ ≤ WData.weight (.int n) + 1 + WData.weightAll (r.map WData.int)
  rcases List.mem_cons.mp h with rfl | h
  ·have e:WData.weight (.int x)=Builtin.Int.intBits x:=rfl
   rw [e];omega
  ·have:=bits_weight r x h
   omega
theorem bits_args{ns:List Int}(h:WData.layableAll [WData.list (ns.map WData.int)]=true):∀ x ∈ ns,Builtin.Int.intBits x ≤ 1048576:=fun x hx=>by
 have h:(WData.layable (.list (ns.map WData.int)) && true)=true:=h
 rw [Bool.and_true] at h
 unfold WData.layable at h
 rw [Bool.and_eq_true] at h
 have h2:WData.weight (.list (ns.map WData.int)) ≤ 2 ^ 20:=of_decide_eq_true h.2
 exact Nat.le_trans (bits_weight ns x hx) h2
theorem attach_call2{l:OpenLaw}{n:Nat}{q:Program}{loose:List Str}{XP:(Str→Option Value)→Heap→Prop}{YP:World→Heap→Prop}{d:DefRec}
  (hn:l.most=some n) (hdf:d.params.defaults=[])
  (call:∀ (w:World) (s₀ s₁:Shared) (mg mb:Str→Option Value) (fa:Addr) (o:Obj) (pm cd doc:Value) (a:Addr) (vs:List Value) (ns:List Int),
   Ground q loose [] XP w s₀ mg mb s₁.heap→YP w s₁.heap →
   s₁.heap.get? fa=some o→o.data = .func (docDef d.name d.params d.body d.scope pm cd doc)→s₁.heap.CodeRec cd d.name→mg d.name=some (.ref fa) →
   s₁.heap.get? a=some { cls:=.type "list",data:=.seq vs.toArray }→IntsAre vs ns→ns.length ≤ n→(∀ x ∈ ns,Builtin.Int.intBits x ≤ 1048576)→s₁.gens = #[] →
   codeAny (model l.prog w) callerA (.call (.ref fa) ⟨[.ref a],[]⟩) (fun r s'=>r = .ok (.ret (.bool true))∧OldK s₁.heap s'.heap∧s'.os=s₁.os∧AllBare s'.gens) s₁) :
  WalkO q loose XP YP l.row.toRowW d [] (fun f vs=>PySem.call f vs):=by
 intro w s₀ s₁ mg mb G Y fa o pm cd doc dV kV ho hd hcd hD hmg hg args vals as hpre hlay hrd hwl hlo
 obtain rfl:dV = .none:=Dflts.none hD hdf
 obtain rfl:kV = .none:=Dflts.noKw hD
 obtain ⟨a,vs,ns,rfl,rfl,hobj,hints,hlen⟩:=script_of hn hpre hwl
 refine enter_call (codeAny_mono (call w s₀ s₁ mg mb fa o pm cd doc a vs ns G Y ho (fd_plain hd) hcd hmg hobj hints hlen (bits_args hlay) hg) fun r s' hq=>?_)
 obtain ⟨rfl,h2,h3,h4⟩:=hq
 exact ⟨.inl ⟨.bool true,.bool true,[],rfl,fun _=>rfl,.bool true,post_true l _,fun _=>⟨List.Pairwise.nil,fun _ hm=>(nomatch hm)⟩⟩,h2,h3,h4⟩
end Att
namespace DL
open PySem PySem.Spec L2 PySem.W PyProof.Rows
theorem walkD{l:OpenLaw}{n k:Nat}{q:Program}{loose:List Str}{XP:(Str→Option Value)→Heap→Prop}{YP:World→Heap→Prop}{d:DefRec}{K:Params→PySem.W.Frag}{S:DSp}{x:Str}
  (hn:l.most=some n) (hn2:n ≤ sizeLine) (hdf:d.params.defaults=[]) (hr:Room k callerA)
  (hY:∀ (w:World) (h:Heap),YP w h→(K w.params).In h)
  (F:∀ (w:World) (mg:Str→Option Value) (fa:Addr) (h:Heap),(K w.params).In h→h.Ns mainGlobals mg→mg d.name=some (.ref fa) →
   ∃ fd:FuncData,(∀ (s:Shared) (u:Value),BindsTo s fd ⟨[u],[]⟩ [(x,u)]) ∧
    ∀ base:Heap,(K w.params).In base→base.Ns mainGlobals mg→FnOk l.prog w (K w.params) mg base CX0 k fa fd [x] (spD (K w.params) 1 S))
  (hS:∀ ns:List Int,ns.length ≤ n→(∀ x ∈ ns,Builtin.Int.intBits x ≤ 1048576)→S [.scr (ns.map D.int)] [] (fun v _=>v = .bl true)) :
  WalkO q loose XP YP l.row.toRowW d [] (fun f vs=>PySem.call f vs):=by
 refine Att.attach_call2 hn hdf fun w s₀ s₁ mg mb fa o pm cd doc a vs ns G Y ho hd hcd hmg hobj hints hlen hbits hg=>?_
 have KX:=hY w _ Y
 obtain ⟨fd,hb,hF⟩:=F w mg fa _ KX G.T.g hmg
 refine L2.law_call KX G.T.g G.T.b G.T.builtins G.T.nolimit hg hobj hints (Nat.le_trans hlen hn2) hr hF hb (fun H hO hS'=>?_) fun H e s' z=>z
 refine ⟨[],[],[],[.scr (ns.map D.int)],_,⟨rfl,List.nodup_nil,fun p hp=>(nomatch hp),fun i o e=>?_⟩,.cons (.scr (a:=a) (us:=ns.map V.int) ?_ (RelDs.ints ns)) .nil,rfl,hS ns hlen hbits,fun d h' α' H' v a b c r=>?_⟩
 ·simp at e
 ·rcases hS' with h | h
  ·exact .inl ⟨fun z=>(nomatch z),fun z=>(nomatch z),h⟩
  ·exact .inr h
 ·have a:d = .bl true:=a
  subst a
  cases r;rfl
end DL
namespace DL
open PySem PySem.Spec L2
mutual
noncomputable def nrD:D→Bool
 |.tup xs=>nrDs xs
 |.lst xs=>nrDs xs
 |.scr xs=>nrDs xs
 |.ref _=>false
 |_=>true
noncomputable def nrDs:List D→Bool
 |[]=>true
 |d :: ds=>nrD d && nrDs ds
end
noncomputable def nrO:O→Bool
 |.lst xs=>nrDs xs
 |.dT _ kvs=>nrDs (kvs.map (·.2))
 |.dK kvs=>nrDs (kvs.map (·.2))
 |.ins _ fs=>nrDs (fs.map (·.2))
mutual
inductive Vw(n:Nat)(h:Hh):D→D→Prop
 |nr {d:D}:nrD d=true→Vw n h d d
 |old {i:Nat}:i < n→Vw n h (.ref i) (.ref i)
 |opn {i:Nat} {xs ys:List D}:n ≤ i→h[i]?=some (.lst xs)→Vws n h xs ys→Vw n h (.ref i) (.lst ys)
 |tup {xs ys:List D}:Vws n h xs ys→Vw n h (.tup xs) (.tup ys)
 |lst {xs ys:List D}:Vws n h xs ys→Vw n h (.lst xs) (.lst ys)
inductive Vws(n:Nat)(h:Hh):List D→List D→Prop
 |nil:Vws n h [] []
 |cons {d e:D} {ds es:List D}:Vw n h d e→Vws n h ds es→Vws n h (d :: ds) (e :: es)
end
section
variable {K:PySem.W.Frag} {π α β:List Addr} {H H':Hp} {h:Hh}
theorem VT.less{a:Addr}{us:List V}(t:VT ⟨K,π⟩ (α ++ β) H a us):VT ⟨K,π⟩ α H a us:=⟨fun z=>t.1 (List.mem_append_left _ z),t.2⟩
theorem VS.less{a:Addr}{us:List V}(t:VS ⟨K,π⟩ (α ++ β) H a us):VS ⟨K,π⟩ α H a us:=by
 rcases t with ⟨n,m,t⟩ | t
 ·exact .inl ⟨fun z=>n (List.mem_append_left _ z),m,t⟩
 ·exact .inr t
theorem VL.less{a:Addr}{us:List V}(t:VL ⟨K,π⟩ (α ++ β) H a us):VL ⟨K,π⟩ α H a us:=⟨fun z=>t.1 (List.mem_append_left _ z),t.2⟩
theorem VE.less{a:Addr}{u:HO}(t:VE ⟨K,π⟩ (α ++ β) H a u):VE ⟨K,π⟩ α H a u:=⟨fun z=>t.1 (List.mem_append_left _ z),t.2⟩
theorem nrDs_and{x:D}{r:List D}(e:nrDs (x :: r)=true):nrD x=true∧nrDs r=true:=by
 have e:(nrD _ && nrDs _)=true:=e
 rw [Bool.and_eq_true] at e
 exact e
theorem RelD.nr{d:D}{v:V}(e:nrD d=true)(r:RelD ⟨K,π⟩ (α ++ β) H d v):RelD ⟨K,π⟩ α H d v :=
 RelD.rec (motive_1:=fun d v _=>nrD d=true→RelD ⟨K,π⟩ α H d v) (motive_2:=fun ds us _=>nrDs ds=true→RelDs ⟨K,π⟩ α H ds us) (fun _=>.non) (fun b _=>.bl b) (fun i _=>.int i) (fun x _=>.str x) (fun t _ h e=>.tup t.less (h e)) (fun t _ h e=>.lst t.less (h e)) (fun t _ h e=>.scr t.less (h e)) (fun _ e=>nomatch e) (fun n t r _=>.exc n t.less (r.map fun _ _ z=>z.less)) (fun _=>.nil) (fun _ _ h t e=>.cons (h (nrDs_and e).1) (t (nrDs_and e).2)) r e
theorem RelDs.nr{ds:List D}{vs:List V}(e:nrDs ds=true)(r:RelDs ⟨K,π⟩ (α ++ β) H ds vs):RelDs ⟨K,π⟩ α H ds vs:=by
 induction ds generalizing vs with
 |nil=>cases r;exact .nil
 |cons d ds ih=>cases r with | cons h t=>exact .cons (h.nr (nrDs_and e).1) (ih (nrDs_and e).2 t)
mutual
noncomputable def rfD(n:Nat):D→Bool
 |.tup xs=>rfDs n xs
 |.lst xs=>rfDs n xs
 |.scr xs=>rfDs n xs
 |.ref i=>decide (i < n)
 |_=>true
noncomputable def rfDs(n:Nat):List D→Bool
 |[]=>true
 |x :: r=>rfD n x && rfDs n r
end
theorem RelD.rf{d:D}{v:V}(r:RelD ⟨K,π⟩ α H d v):rfD α.length d=true :=
 RelD.rec (motive_1:=fun d _ _=>rfD α.length d=true) (motive_2:=fun ds _ _=>rfDs α.length ds=true) rfl (fun _=>rfl) (fun _=>rfl) (fun _=>rfl) (fun _ _ h=>h) (fun _ _ h=>h) (fun _ _ h=>h) (fun h=>decide_eq_true (List.getElem?_eq_some_iff.mp h).1) (fun _ _ _=>rfl) rfl (fun _ _ h t=>Bool.and_eq_true_iff.mpr ⟨h,t⟩) r
theorem RelDs.rf{ds:List D}{vs:List V}(r:RelDs ⟨K,π⟩ α H ds vs):rfDs α.length ds=true:=by
 induction ds generalizing vs with
 |nil=>rfl
 |cons d ds ih=>cases r with | cons h t=>exact Bool.and_eq_true_iff.mpr ⟨h.rf,ih t⟩
theorem RelD.old2{d:D}{v:V}(e:rfD α.length d=true)(r:RelD ⟨K,π⟩ (α ++ β) H d v):RelD ⟨K,π⟩ α H d v :=
 RelD.rec (motive_1:=fun d v _=>rfD α.length d=true→RelD ⟨K,π⟩ α H d v) (motive_2:=fun ds us _=>rfDs α.length ds=true→RelDs ⟨K,π⟩ α H ds us) (fun _=>.non) (fun b _=>.bl b) (fun i _=>.int i) (fun x _=>.str x) (fun t _ h e=>.tup t.less (h e)) (fun t _ h e=>.lst t.less (h e)) (fun t _ h e=>.scr t.less (h e)) (fun h1 e=>.ref (by rw [List.getElem?_append_left (of_decide_eq_true e)] at h1;exact h1)) (fun n t r _=>.exc n t.less (r.map fun _ _ z=>z.less)) (fun _=>.nil) (fun _ _ h t e=>.cons (h (Bool.and_eq_true_iff.mp e).1) (t (Bool.and_eq_true_iff.mp e).2)) r e
theorem RelDs.old2{ds:List D}{vs:List V}(e:rfDs α.length ds=true)(r:RelDs ⟨K,π⟩ (α ++ β) H ds vs):RelDs ⟨K,π⟩ α H ds vs:=by
 induction ds generalizing vs with
 |nil=>cases r;exact .nil
 |cons d ds ih=>cases r with | cons h t=>exact .cons (h.old2 (Bool.and_eq_true_iff.mp e).1) (ih (Bool.and_eq_true_iff.mp e).2 t)
theorem RelD.old{d:D}{v v0:V}(r0:RelD ⟨K,π⟩ α H d v0)(r:RelD ⟨K,π⟩ (α ++ β) H' d v):RelD ⟨K,π⟩ α H' d v:=r.old2 r0.rf
theorem RelDs.old{ds:List D}{vs vs0:List V}(r0:RelDs ⟨K,π⟩ α H ds vs0)(r:RelDs ⟨K,π⟩ (α ++ β) H' ds vs):RelDs ⟨K,π⟩ α H' ds vs:=r.old2 r0.rf
theorem RelKV.old{κ:Type}{ds:List (κ×D)}{vs vs0:List (κ×V)}(r0:RelKV ⟨K,π⟩ α H ds vs0)(r:RelKV ⟨K,π⟩ (α ++ β) H' ds vs):RelKV ⟨K,π⟩ α H' ds vs:=by
 induction r0 generalizing vs with
 |nil=>cases r;exact .nil
 |cons r0 _ ih=>cases r with | cons r t=>exact .cons (RelD.old r0 r) (ih t)
theorem RelKV.nr{κ:Type}{ds:List (κ×D)}{vs:List (κ×V)}(e:nrDs (ds.map (·.2))=true)(r:RelKV ⟨K,π⟩ (α ++ β) H ds vs):RelKV ⟨K,π⟩ α H ds vs:=by
 induction r with
 |nil=>exact .nil
 |cons r _ ih =>
  have e:(nrD _ && nrDs _)=true:=e
  rw [Bool.and_eq_true] at e
  exact .cons (RelD.nr e.1 r) (ih e.2)
theorem RelO'.nr{p:Addr}{o:O}(e:nrO o=true)(r:RelO' ⟨K,π⟩ (α ++ β) H p o):RelO' ⟨K,π⟩ α H p o:=by
 cases r with
 |lst h t=>exact .lst h (t.nr e)
 |dT h t=>exact .dT h (t.nr e)
 |dK h t=>exact .dK h (t.nr e)
 |ins n h t=>exact .ins n h (t.nr e)
theorem RelO'.old{p p0:Addr}{o:O}(r0:RelO' ⟨K,π⟩ α H p0 o)(r:RelO' ⟨K,π⟩ (α ++ β) H' p o):RelO' ⟨K,π⟩ α H' p o:=by
 cases r0 with
 |lst h0 t0=>cases r with | lst h t=>exact .lst h (t0.old t)
 |dT h0 t0=>cases r with | dT h t=>exact .dT h (t0.old t)
 |dK h0 t0=>cases r with | dK h t=>exact .dK h (t0.old t)
 |ins n0 h0 t0=>cases r with | ins n h t=>exact .ins n h (t0.old t)
theorem Vw.rel(R:HRel ⟨K,π⟩ (α ++ β) H h){n:Nat}(hn:α.length=n){d e:D}{v:V}(w:Vw n h d e)(r:RelD ⟨K,π⟩ (α ++ β) H d v):RelD ⟨K,π⟩ α H e v:=by
 refine Vw.rec (motive_1:=fun d e _=>∀ v,RelD ⟨K,π⟩ (α ++ β) H d v→RelD ⟨K,π⟩ α H e v) (motive_2:=fun ds es _=>∀ vs,RelDs ⟨K,π⟩ (α ++ β) H ds vs→RelDs ⟨K,π⟩ α H es vs) (fun e v r=>r.nr e) ?_ ?_ ?_ ?_ ?_ ?_ w v r
 ·intro i hi v r
  cases r with
  |ref hp=>exact .ref (by rw [List.getElem?_append_left (by omega)] at hp;exact hp)
 ·intro i xs ys hi e _ ih v r
  cases r with
  |ref hp =>
  obtain ⟨us,e2,e3⟩:=refL R hp e
  have hm:=List.mem_of_getElem? hp
  refine .lst ⟨fun z=>?_,fun z=>(R.dis _ z).1 hm,e2⟩ (ih _ e3)
  obtain ⟨j,hj,ej⟩:=List.getElem_of_mem z
  subst ej
  have q:(α ++ β)[j]?=some α[j]:=by rw [List.getElem?_append_left hj,List.getElem?_eq_getElem hj]
  have:=(List.getElem?_inj (List.getElem?_eq_some_iff.mp hp).1 R.nd).mp (hp.trans q.symm)
  omega
 ·intro xs ys _ ih v r
  cases r with
  |tup q r=>exact .tup q.less (ih _ r)
 ·intro xs ys _ ih v r
  cases r with
  |lst q r=>exact .lst q.less (ih _ r)
 ·intro vs r
  cases r;exact .nil
 ·intro d e ds es _ _ h1 h2 vs r
  cases r with
  |cons r s=>exact .cons (h1 _ r) (h2 _ s)
end
noncomputable def Dr(h:Hh)(Q:DK):DK:=fun d h'=>∃ h2 g d',h'=h2 ++ g∧h2.length=h.length∧(∀ (i:Nat) (o:O),h2[i]?=some o→h[i]?=some o∨nrO o=true)∧Vw h.length h' d d'∧Q d' h2
theorem Dr.rel{K:PySem.W.Frag}{π α α':List Addr}{H H':Hp}{h h':Hh}{Q:DK}{d:D}{v:V}(R:HRel ⟨K,π⟩ α H h)(e:Ext α H α' H')(R':HRel ⟨K,π⟩ α' H' h')(r:RelD ⟨K,π⟩ α' H' d v)(q:Dr h Q d h') :
  ∃ d' h2,Q d' h2∧Ext α H α H'∧HRel ⟨K,π⟩ α H' h2∧RelD ⟨K,π⟩ α H' d' v:=by
 obtain ⟨h2,g,d',rfl,hl,ho,vw,q⟩:=q
 obtain ⟨⟨β,rfl,hb⟩,ek,ed⟩:=e
 have hn:=R.len
 refine ⟨d',h2,q,⟨⟨[],by simp,fun p hp=>nomatch hp⟩,ek,ed⟩,⟨by omega,?_,fun p hp=>?_,fun i o eo=>?_⟩,vw.rel R' hn r⟩
 ·exact R.nd
 ·exact ⟨fun z=>(R'.dis p hp).1 (List.mem_append_left _ z),(R'.dis p hp).2⟩
 ·have hi:i < h2.length:=(List.getElem?_eq_some_iff.mp eo).1
  obtain ⟨p,ep,ro⟩:=R'.obj i o (by rw [List.getElem?_append_left hi];exact eo)
  refine ⟨p,by rw [List.getElem?_append_left (by omega)] at ep;exact ep,?_⟩
  rcases ho i o eo with z | z
  ·obtain ⟨p0,_,r0⟩:=R.obj i o z
   exact r0.old ro
  ·exact ro.nr z
theorem fn_okD{P:Program}{w:World}{K:PySem.W.Frag}{mg:Str→Option Value}{base:Heap}{x qual:Str}{st:Stmt}{f:Addr}{fd:FuncData}{N ps:List Str}{k:Nat}{b:DS}{g:DSp}(F:Fun K x qual st f fd)(S:FnScope N ps (defScope st))
  (hb:∀ (cdv:Value) (A:Around) (outer:List Env) (s:Shared) (H:Hp) (E:XK),Room k (A.deeper (PyProof.Rows.envOfC qual (defScope st) s.heap.objs.size f cdv))→SSs (cxOf CX0 P w K mg base N qual (defScope st) f cdv A outer s H E).nox (defBody st) b)
  (hg:∀ ds h Q,g ds h Q→runD N.length b ds h (Dr h Q)):FnOk P w K mg base CX0 (k + 1) f fd ps (spD K ps.length g):=by
 refine F.ok S (fun vs H Q E h=>?_) fun cdv A outer s H vs Q E hr h=>?_
 ·obtain ⟨π,α,h,ds,Q',R,r,l,_⟩:=h
  rw [← r.length,l]
 ·obtain ⟨π,α,h,ds,Q',R,r,l,q,kk⟩:=h
  refine ⟨_,hb cdv A outer s H E hr,π,α,_,h,{ nx:=fun _ h'=>Dr h Q' .non h',rt:=Dr h Q' },R,relS_start r,hg ds h Q' q,⟨fun _ h' α' H' σ' a b c _=>?_,fun d h' α' H' v a b c d'=>?_,fun _ _ _ _ _ a _ _ _=>a.elim,fun _ _ _ _ _ a _ _ _=>a.elim,fun _ _ _ _ _ _ _ a _ _ _=>a.elim⟩⟩
  ·obtain ⟨d',h2,q,e,R2,r2⟩:=a.rel R b c .non
   exact kk d' h2 α H' .non q e R2 r2
  ·obtain ⟨d',h2,q,e,R2,r2⟩:=a.rel R b c d'
   exact kk d' h2 α H' v q e R2 r2
theorem nrDs_map{τ:Type}{g:τ→D}(hg:∀ x,nrD (g x)=true):∀ xs:List τ,nrDs (xs.map g)=true
 |[]=>rfl
 |x :: r=>by
  show (nrD (g x) && nrDs (r.map g))=true
  rw [hg x,nrDs_map hg r];rfl
theorem Vws.of{n:Nat}{h:Hh}:∀ {xs:List D},nrDs xs=true→Vws n h xs xs
 |[],_=>.nil
 |x :: r,e=>by
  have e:(nrD x && nrDs r)=true:=e
  rw [Bool.and_eq_true] at e
  exact .cons (.nr e.1) (Vws.of e.2)
theorem Dr.same{h:Hh}{Q:DK}{d:D}(e:nrD d=true)(q:Q d h):Dr h Q d h:=⟨h,[],d,by simp,rfl,fun _ _ e=>.inl e,.nr e,q⟩
theorem Dr.drop{h g:Hh}{Q:DK}{d:D}(e:nrD d=true)(q:Q d h):Dr h Q d (h ++ g):=⟨h,g,d,rfl,rfl,fun _ _ e=>.inl e,.nr e,q⟩
theorem Dr.dropL{h:Hh}{Q:DK}{xs:List D}{g1 g2:Hh}{k:Nat}(e:nrDs xs=true)(hk:k=h.length + g1.length)(q:Q (.lst xs) h):Dr h Q (.ref k) (h ++ (g1 ++ .lst xs :: g2)):=by
 refine ⟨h,g1 ++ .lst xs :: g2,.lst xs,rfl,rfl,fun _ _ e=>.inl e,.opn (by omega) ?_ (.of e),q⟩
 subst hk
 rw [List.getElem?_append_right (by omega),show h.length + g1.length - h.length=g1.length by omega,List.getElem?_append_right (Nat.le_refl _)]
 simp
end DL
namespace DL
open PySem L2
theorem atN{α:Type}(xs:List α)(i:Nat):atI xs (i:Int)=xs[i]?:=by
 unfold atI ixN
 by_cases h:i < xs.length
 ·rw [if_pos (by omega),if_pos (by omega)];simp
 ·rw [if_pos (by omega),if_neg (by omega)]
  simp;omega
theorem atI_0{α:Type}(a:α)(l:List α):atI (a :: l) 0=some a:=atN _ 0
theorem atI_1{α:Type}(a b:α)(l:List α):atI (a :: b :: l) 1=some b:=atN _ 1
theorem atI_2{α:Type}(a b c:α)(l:List α):atI (a :: b :: c :: l) 2=some c:=atN _ 2
theorem atI_3{α:Type}(a b c d:α)(l:List α):atI (a :: b :: c :: d :: l) 3=some d:=atN _ 3
theorem at1_0{α:Type}(a:α):atI [a] 0=some a:=rfl
theorem at2_0{α:Type}(a b:α):atI [a,b] 0=some a:=rfl
theorem at2_1{α:Type}(a b:α):atI [a,b] 1=some b:=rfl
theorem at3_0{α:Type}(a b c:α):atI [a,b,c] 0=some a:=rfl
theorem at3_1{α:Type}(a b c:α):atI [a,b,c] 1=some b:=rfl
theorem at3_2{α:Type}(a b c:α):atI [a,b,c] 2=some c:=rfl
theorem at4_0{α:Type}(a b c d:α):atI [a,b,c,d] 0=some a:=rfl
theorem at4_1{α:Type}(a b c d:α):atI [a,b,c,d] 1=some b:=rfl
theorem at4_2{α:Type}(a b c d:α):atI [a,b,c,d] 2=some c:=rfl
theorem at4_3{α:Type}(a b c d:α):atI [a,b,c,d] 3=some d:=rfl
theorem at5_0{α:Type}(a b c d e:α):atI [a,b,c,d,e] 0=some a:=rfl
theorem at5_1{α:Type}(a b c d e:α):atI [a,b,c,d,e] 1=some b:=rfl
theorem at5_2{α:Type}(a b c d e:α):atI [a,b,c,d,e] 2=some c:=rfl
theorem at5_3{α:Type}(a b c d e:α):atI [a,b,c,d,e] 3=some d:=rfl
theorem at5_4{α:Type}(a b c d e:α):atI [a,b,c,d,e] 4=some e:=rfl
theorem at6_0{α:Type}(a b c d e f:α):atI [a,b,c,d,e,f] 0=some a:=rfl
theorem at6_1{α:Type}(a b c d e f:α):atI [a,b,c,d,e,f] 1=some b:=rfl
theorem at6_2{α:Type}(a b c d e f:α):atI [a,b,c,d,e,f] 2=some c:=rfl
theorem at6_3{α:Type}(a b c d e f:α):atI [a,b,c,d,e,f] 3=some d:=rfl
theorem at6_4{α:Type}(a b c d e f:α):atI [a,b,c,d,e,f] 4=some e:=rfl
theorem at6_5{α:Type}(a b c d e f:α):atI [a,b,c,d,e,f] 5=some f:=rfl
theorem at7_0{α:Type}(a b c d e f g:α):atI [a,b,c,d,e,f,g] 0=some a:=rfl
theorem at7_1{α:Type}(a b c d e f g:α):atI [a,b,c,d,e,f,g] 1=some b:=rfl
theorem at7_2{α:Type}(a b c d e f g:α):atI [a,b,c,d,e,f,g] 2=some c:=rfl
theorem at7_3{α:Type}(a b c d e f g:α):atI [a,b,c,d,e,f,g] 3=some d:=rfl
theorem at7_4{α:Type}(a b c d e f g:α):atI [a,b,c,d,e,f,g] 4=some e:=rfl
theorem at7_5{α:Type}(a b c d e f g:α):atI [a,b,c,d,e,f,g] 5=some f:=rfl
theorem at7_6{α:Type}(a b c d e f g:α):atI [a,b,c,d,e,f,g] 6=some g:=rfl
theorem at8_0{α:Type}(a b c d e f g i:α):atI [a,b,c,d,e,f,g,i] 0=some a:=rfl
theorem at8_1{α:Type}(a b c d e f g i:α):atI [a,b,c,d,e,f,g,i] 1=some b:=rfl
theorem at8_2{α:Type}(a b c d e f g i:α):atI [a,b,c,d,e,f,g,i] 2=some c:=rfl
theorem at8_3{α:Type}(a b c d e f g i:α):atI [a,b,c,d,e,f,g,i] 3=some d:=rfl
theorem at8_4{α:Type}(a b c d e f g i:α):atI [a,b,c,d,e,f,g,i] 4=some e:=rfl
theorem at8_5{α:Type}(a b c d e f g i:α):atI [a,b,c,d,e,f,g,i] 5=some f:=rfl
theorem at8_6{α:Type}(a b c d e f g i:α):atI [a,b,c,d,e,f,g,i] 6=some g:=rfl
theorem at8_7{α:Type}(a b c d e f g i:α):atI [a,b,c,d,e,f,g,i] 7=some i:=rfl
theorem ix_ls{h:Hh}{d:D}{xs:List D}(e:lsOf h d=some xs)(k:Int):ixD h d (.int k)=atI xs k:=by
 cases d with
 |lst ys=>cases e;rfl
 |scr ys=>cases e;rfl
 |ref i =>
  have e:(match h[i]? with | some (.lst xs)=>some xs | _=>none)=some xs:=e
  show (match h[i]? with | some (.lst xs)=>atI xs k | _=>none)=atI xs k
  cases q:h[i]? with
  |none=>rw [q] at e;cases e
  |some o =>
   rw [q] at e
   cases o with
   |lst ys=>cases e;rfl
   |_=>cases e
 |_=>cases e
theorem seq_ls{h:Hh}{d:D}{xs:List D}(e:lsOf h d=some xs):seqOf h d=some xs:=by
 cases d with
 |lst ys=>exact e
 |scr ys=>exact e
 |ref i=>exact e
 |_=>cases e
theorem len_ls{h:Hh}{d:D}{xs:List D}(e:lsOf h d=some xs):lenD h d=some xs.length:=by
 have s:=seq_ls e
 cases d with
 |lst ys=>cases e;rfl
 |scr ys=>cases e;rfl
 |ref i=>show (seqOf h (.ref i)).map List.length=_;rw [s];rfl
 |_=>cases e
theorem src_ls{h:Hh}{d:D}{xs:List D}(e:lsOf h d=some xs):∃ w,seqSrc h d=some ⟨xs,w⟩∧(Src.mk xs w).ok h∧∀ p ∈ w,∃ i,d = .ref i∧p=(i,.lst xs):=by
 cases d with
 |lst ys=>cases e;exact ⟨[],rfl,Src.ok_nil,fun p hp=>nomatch hp⟩
 |scr ys=>cases e;exact ⟨[],rfl,Src.ok_nil,fun p hp=>nomatch hp⟩
 |ref i =>
  have e:(match h[i]? with | some (.lst xs)=>some xs | _=>none)=some xs:=e
  cases q:h[i]? with
  |none=>rw [q] at e;cases e
  |some o =>
   rw [q] at e
   cases o with
   |lst ys =>
    cases e
    refine ⟨[(i,.lst xs)],?_,fun p hp=>?_,fun p hp=>⟨i,rfl,List.mem_singleton.mp hp⟩⟩
    ·show (match h[i]? with | some (.lst xs)=>some (Src.mk xs [(i,.lst xs)]) | _=>none)=_
     rw [q]
    ·rw [List.mem_singleton.mp hp];exact q
   |_=>cases e
 |_=>cases e
noncomputable def Pre(h h':Hh):Prop:=∀ (i:Nat) (o:O),h[i]?=some o→h'[i]?=some o
theorem Pre.refl(h:Hh):Pre h h:=fun _ _ e=>e
theorem Pre.app(h g:Hh):Pre h (h ++ g):=fun i o e=>by
 rw [List.getElem?_append_left (List.getElem?_eq_some_iff.mp e).1];exact e
theorem Pre.ls{h h':Hh}(p:Pre h h'){d:D}{xs:List D}(e:lsOf h d=some xs):lsOf h' d=some xs:=by
 cases d with
 |ref i =>
  have e:(match h[i]? with | some (.lst xs)=>some xs | _=>none)=some xs:=e
  show (match h'[i]? with | some (.lst xs)=>some xs | _=>none)=some xs
  cases q:h[i]? with
  |none=>rw [q] at e;cases e
  |some o=>rw [q] at e;rw [p i o q];exact e
 |_=>exact e
theorem ls_new(h:Hh)(xs:List D):lsOf (h ++ [.lst xs]) (.ref h.length)=some xs:=by
 show (match (h ++ [O.lst xs])[h.length]? with | some (.lst xs)=>some xs | _=>none)=some xs
 rw [List.getElem?_append_right (Nat.le_refl _)];simp
theorem get_new(h:Hh)(o:O):(h ++ [o])[h.length]?=some o:=by
 rw [List.getElem?_append_right (Nat.le_refl _)];simp
theorem set_new(h:Hh)(o u:O):(h ++ [o]).set h.length u=h ++ [u]:=by
 rw [List.set_append_right _ _ (Nat.le_refl _)];simp
theorem forL_map{τ:Type}{S:Src}{t:DG}{b:DS}{E:DEnds}(P:List τ→Sl→Hh→Prop){g:τ→D}{ys:List τ}{δ:Sl}{h:Hh}(h0:P [] δ h)(ok:∀ p δ h,P p δ h→S.ok h)
  (hs:∀ (p:List τ) (y:τ) (r:List τ) (δ:Sl) (h:Hh) (N:Sl→Hh→Prop),ys=p ++ y :: r→P p δ h→(∀ δ h,P (p ++ [y]) δ h→N δ h)→t (g y) δ h fun δ2 h2=>b { E with nx:=N,ct:=N,bk:=E.nx } δ2 h2)
  (hd:∀ δ h,P ys δ h→E.nx δ h):forL S t b E (ys.map g) δ h:=by
 have go:∀ (r p:List τ) δ h,ys=p ++ r→P p δ h→forL S t b E (r.map g) δ h:=by
  intro r
  induction r with
  |nil=>intro p δ h e q;rw [List.append_nil] at e;subst e;exact ⟨ok _ _ _ q,hd _ _ q⟩
  |cons y r ih =>
   intro p δ h e q
   exact ⟨ok _ _ _ q,hs p y r δ h _ e q fun δ3 h3 p3=>ih (p ++ [y]) δ3 h3 (by rw [e];simp) p3⟩
 exact go ys [] δ h rfl h0
theorem compL_map{τ:Type}{S:Src}{t:DG}{tf:DT}{te:DE}(P:List τ→List D→Sl→Hh→Prop){g:τ→D}{ys:List τ}{δ:Sl}{h:Hh}{Q:List D→Hh→Prop}(h0:P [] [] δ h)(ok:∀ p a δ h,P p a δ h→S.ok h)
  (hs:∀ (p:List τ) (y:τ) (r:List τ) (acc:List D) (δ:Sl) (h:Hh) (N:List D→Sl→Hh→Prop),ys=p ++ y :: r→P p acc δ h→(∀ a δ h,P (p ++ [y]) a δ h→N a δ h) →
   t (g y) δ h fun δ2 h2=>tf δ2 h2 fun b h3=>if b=true then te δ2 h3 fun z h4=>N (acc ++ [z]) δ2 h4 else N acc δ2 h3)
  (hd:∀ a δ h,P ys a δ h→Q a h):compL S t tf te (ys.map g) [] δ h Q:=by
 have go:∀ (r p:List τ) a δ h,ys=p ++ r→P p a δ h→compL S t tf te (r.map g) a δ h Q:=by
  intro r
  induction r with
  |nil=>intro p a δ h e q;rw [List.append_nil] at e;subst e;exact ⟨ok _ _ _ _ q,hd _ _ _ q⟩
  |cons y r ih =>
   intro p a δ h e q
   exact ⟨ok _ _ _ _ q,hs p y r a δ h (fun a δ h=>compL S t tf te (r.map g) a δ h Q) e q fun a3 δ3 h3 p3=>ih (p ++ [y]) a3 δ3 h3 (by rw [e];simp) p3⟩
 exact go ys [] [] δ h rfl h0
theorem comp1{τ:Type}{S:Src}{tf:DT}{te:DE}{g:τ→D}{ys:List τ}{h:Hh}{fr:Sl}{Q:List D→Hh→Prop}(c:τ→Bool)(v:τ→D)(ok:S.ok h)(o:Option D)
  (htf:∀ y ∈ ys,∀ K:Bool→Hh→Prop,K (c y) h→tf (some (g y) :: fr) h K) (hte:∀ y ∈ ys,c y=true→∀ K:DK,K (v y) h→te (some (g y) :: fr) h K)
  (hd:Q ((ys.filter c).map v) h):compL S (dName 0) tf te (ys.map g) [] (o :: fr) h Q:=by
 refine compL_map (fun p a δ h'=>h'=h∧(∃ o,δ=o :: fr)∧a=(p.filter c).map v) ⟨rfl,⟨o,rfl⟩,rfl⟩ (fun p a δ h' q=>by rw [q.1];exact ok) ?_ ?_
 ·rintro p y r acc δ h' N e ⟨rfl,⟨o,rfl⟩,rfl⟩ hN
  have hy:y ∈ ys:=by rw [e];simp
  refine htf y hy _ ?_
  cases hc:c y with
  |true =>
   refine iteT (hte y hy hc _ (hN _ _ _ ⟨rfl,⟨_,rfl⟩,?_⟩))
   simp [List.filter_append,hc]
  |false =>
   refine iteF (hN _ _ _ ⟨rfl,⟨_,rfl⟩,?_⟩)
   simp [List.filter_append,hc]
 ·rintro a δ h' ⟨rfl,_,rfl⟩
  exact hd
theorem comp1n{τ:Type}{S:Src}{te:DE}{g:τ→D}{ys:List τ}{h:Hh}{fr:Sl}{Q:List D→Hh→Prop}(v:τ→D)(ok:S.ok h)(o:Option D)
  (hte:∀ y ∈ ys,∀ K:DK,K (v y) h→te (some (g y) :: fr) h K) (hd:Q (ys.map v) h):compL S (dName 0) dNoIf te (ys.map g) [] (o :: fr) h Q :=
 comp1 (fun _=>true) v ok o (fun _ _ K k=>k) (fun y hy _=>hte y hy) ((show ys.filter (fun _=>true)=ys by simp).symm ▸ hd)
theorem rangeD_map(lo:Int):∀ n:Nat,rangeD lo n=(List.range n).map fun i=>D.int (lo + (i:Nat)):=by
 intro n
 apply List.ext_getElem?
 intro i
 rw [rangeD_get]
 by_cases h:i < n <;> simp [h]
theorem enumD_map{τ:Type}(lo:Int)(g:τ→D)(ys:List τ):enumD lo (ys.map g)=ys.zipIdx.map fun p=>.tup [.int (lo + (p.2:Nat)),g p.1]:=by
 apply List.ext_getElem?
 intro i
 rw [enumD_get]
 simp [List.getElem?_zipIdx]
 cases ys[i]? <;> simp
theorem isN_non:isNon .non=true:=rfl
theorem isN_bl(b:Bool):isNon (.bl b)=false:=rfl
theorem isN_int(b:Int):isNon (.int b)=false:=rfl
theorem isN_str(b:Str):isNon (.str b)=false:=rfl
theorem isN_tup(b:List D):isNon (.tup b)=false:=rfl
theorem isN_lst(b:List D):isNon (.lst b)=false:=rfl
theorem isN_ref(b:Nat):isNon (.ref b)=false:=rfl
theorem lsOf_lst(h:Hh)(xs:List D):lsOf h (.lst xs)=some xs:=rfl
theorem seqOf_lst(h:Hh)(xs:List D):seqOf h (.lst xs)=some xs:=rfl
theorem seqSrc_lst(h:Hh)(xs:List D):seqSrc h (.lst xs)=some ⟨xs,[]⟩:=rfl
theorem lenD_lst(h:Hh)(xs:List D):lenD h (.lst xs)=some xs.length:=rfl
theorem ixD_lst(h:Hh)(xs:List D)(i:Int):ixD h (.lst xs) (.int i)=atI xs i:=rfl
theorem trD_lst(h:Hh)(xs:List D):trD h (.lst xs)=some (!xs.isEmpty):=rfl
theorem lsOf_scr(h:Hh)(xs:List D):lsOf h (.scr xs)=some xs:=rfl
theorem seqOf_scr(h:Hh)(xs:List D):seqOf h (.scr xs)=some xs:=rfl
theorem seqSrc_scr(h:Hh)(xs:List D):seqSrc h (.scr xs)=some ⟨xs,[]⟩:=rfl
theorem lenD_scr(h:Hh)(xs:List D):lenD h (.scr xs)=some xs.length:=rfl
theorem ixD_scr(h:Hh)(xs:List D)(i:Int):ixD h (.scr xs) (.int i)=atI xs i:=rfl
theorem trD_scr(h:Hh)(xs:List D):trD h (.scr xs)=some (!xs.isEmpty):=rfl
theorem lsP_lst(h:Hh)(xs:List D):lsP h (.lst xs)=some xs:=rfl
theorem lsP_tup(h:Hh)(xs:List D):lsP h (.tup xs)=none:=rfl
theorem lsP_int(h:Hh)(x:Int):lsP h (.int x)=none:=rfl
theorem lsP_str(h:Hh)(x:Str):lsP h (.str x)=none:=rfl
theorem seqOf_tup(h:Hh)(xs:List D):seqOf h (.tup xs)=some xs:=rfl
theorem seqSrc_tup(h:Hh)(xs:List D):seqSrc h (.tup xs)=some ⟨xs,[]⟩:=rfl
theorem lenD_tup(h:Hh)(xs:List D):lenD h (.tup xs)=some xs.length:=rfl
theorem ixD_tup(h:Hh)(xs:List D)(i:Int):ixD h (.tup xs) (.int i)=atI xs i:=rfl
theorem trD_tup(h:Hh)(xs:List D):trD h (.tup xs)=some (!xs.isEmpty):=rfl
theorem trD_non(h:Hh):trD h .non=some false:=rfl
theorem trD_bl(h:Hh)(b:Bool):trD h (.bl b)=some b:=rfl
theorem trD_int(h:Hh)(i:Int):trD h (.int i)=some (i != 0):=rfl
theorem kindD_non(h:Hh) :kindD h (.non)=some "NoneType":=rfl
theorem kindD_bl(h:Hh)(x:Bool):kindD h (.bl x)=some "bool":=rfl
theorem kindD_int(h:Hh)(x:Int):kindD h (.int x)=some "int":=rfl
theorem kindD_str(h:Hh)(x:Str):kindD h (.str x)=some "str":=rfl
theorem kindD_tup(h:Hh)(x:List D):kindD h (.tup x)=some "tuple":=rfl
theorem kindD_lst(h:Hh)(x:List D):kindD h (.lst x)=some "list":=rfl
theorem isK_NoneType_bool:isKind "NoneType" "bool" = false:=rfl
theorem isK_NoneType_int:isKind "NoneType" "int" = false:=rfl
theorem isK_NoneType_str:isKind "NoneType" "str" = false:=rfl
theorem isK_NoneType_tuple:isKind "NoneType" "tuple" = false:=rfl
theorem isK_NoneType_list:isKind "NoneType" "list" = false:=rfl
theorem isK_NoneType_dict:isKind "NoneType" "dict" = false:=rfl
theorem isK_bool_bool:isKind "bool" "bool" = true:=rfl
theorem isK_bool_int:isKind "bool" "int" = true:=rfl
theorem isK_bool_str:isKind "bool" "str" = false:=rfl
theorem isK_bool_tuple:isKind "bool" "tuple" = false:=rfl
theorem isK_bool_list:isKind "bool" "list" = false:=rfl
theorem isK_bool_dict:isKind "bool" "dict" = false:=rfl
theorem isK_int_bool:isKind "int" "bool" = false:=rfl
theorem isK_int_int:isKind "int" "int" = true:=rfl
theorem isK_int_str:isKind "int" "str" = false:=rfl
theorem isK_int_tuple:isKind "int" "tuple" = false:=rfl
theorem isK_int_list:isKind "int" "list" = false:=rfl
theorem isK_int_dict:isKind "int" "dict" = false:=rfl
theorem isK_str_bool:isKind "str" "bool" = false:=rfl
theorem isK_str_int:isKind "str" "int" = false:=rfl
theorem isK_str_str:isKind "str" "str" = true:=rfl
theorem isK_str_tuple:isKind "str" "tuple" = false:=rfl
theorem isK_str_list:isKind "str" "list" = false:=rfl
theorem isK_str_dict:isKind "str" "dict" = false:=rfl
theorem isK_tuple_bool:isKind "tuple" "bool" = false:=rfl
theorem isK_tuple_int:isKind "tuple" "int" = false:=rfl
theorem isK_tuple_str:isKind "tuple" "str" = false:=rfl
theorem isK_tuple_tuple:isKind "tuple" "tuple" = true:=rfl
theorem isK_tuple_list:isKind "tuple" "list" = false:=rfl
theorem isK_tuple_dict:isKind "tuple" "dict" = false:=rfl
theorem isK_list_bool:isKind "list" "bool" = false:=rfl
theorem isK_list_int:isKind "list" "int" = false:=rfl
theorem isK_list_str:isKind "list" "str" = false:=rfl
theorem isK_list_tuple:isKind "list" "tuple" = false:=rfl
theorem isK_list_list:isKind "list" "list" = true:=rfl
theorem isK_list_dict:isKind "list" "dict" = false:=rfl
theorem isK_dict_bool:isKind "dict" "bool" = false:=rfl
theorem isK_dict_int:isKind "dict" "int" = false:=rfl
theorem isK_dict_str:isKind "dict" "str" = false:=rfl
theorem isK_dict_tuple:isKind "dict" "tuple" = false:=rfl
theorem isK_dict_list:isKind "dict" "list" = false:=rfl
theorem isK_dict_dict:isKind "dict" "dict" = true:=rfl
theorem kindD_ref{h:Hh}{i:Nat}{xs:List D}(e:h[i]?=some (.lst xs)):kindD h (.ref i)=some "list":=by show (match h[i]? with | some (.lst _)=>some "list" | some (.dT none _)=>some "dict" | some (.dK _)=>some "dict" | _=>none)=_;rw [e]
theorem lsOf_ref{h:Hh}{i:Nat}{xs:List D}(e:h[i]?=some (.lst xs)):lsOf h (.ref i)=some xs:=by show (match h[i]? with | some (.lst xs)=>some xs | _=>none)=_;rw [e]
theorem seqSrc_ref{h:Hh}{i:Nat}{xs:List D}(e:h[i]?=some (.lst xs)):seqSrc h (.ref i)=some ⟨xs,[(i,.lst xs)]⟩:=by show (match h[i]? with | some (.lst xs)=>some (Src.mk xs [(i,.lst xs)]) | _=>none)=_;rw [e]
theorem ixN_0(n:Nat):ixN (n + 1) 0=some 0:=by unfold ixN;rw [if_pos (by decide),if_pos (by omega)];rfl
theorem ixN_10:ixN 1 0=some 0:=rfl
theorem ixN_nat{n i:Nat}(h:i < n):ixN n (i:Int)=some i:=by unfold ixN;rw [if_pos (by omega),if_pos (by omega)];simp
theorem range_split{n d:Nat}{p r:List Nat}(e:List.range n=p ++ d :: r):d=p.length∧d < n:=by
 have h9:p.length < n:=by
  have:p.length < (List.range n).length:=by rw [e];simp
  simpa using this
 have h8:(List.range n)[p.length]?=some d:=by rw [e];simp
 rw [List.getElem?_range h9] at h8
 cases h8;exact ⟨rfl,h9⟩
theorem seq_intro{f g:DS}{E:DEnds}{δ:Sl}{h:Hh}(k:∀ N:Sl→Hh→Prop,N=g E→f { E with nx:=N } δ h):dSeq f g E δ h:=k _ rfl
theorem beqN(a b:Nat):((a:Int) == (b:Int))=decide (a=b):=by rw [Bool.eq_iff_iff];simp;omega
theorem beqP(a b:Nat):((a:Int) == (b:Int) - 1)=decide (a + 1=b):=by rw [Bool.eq_iff_iff];simp;omega
theorem beqS(a b:Nat):((a:Int) == (b:Int))=decide (b=a):=by rw [Bool.eq_iff_iff];simp;omega
theorem if_intro{t:DT}{a b:DS}{E:DEnds}{δ:Sl}{h:Hh}(k:∀ A B:Sl→Hh→Prop,A=a E→B=b E→t δ h fun c h1=>if c=true then A δ h1 else B δ h1):dIfS t a b E δ h:=k _ _ rfl rfl
theorem iteB{c:Bool}{A B:Prop}(h1:c=true→A)(h2:c=false→B):if c=true then A else B:=by
 cases c with
 |true=>exact iteT (h1 rfl)
 |false=>exact iteF (h2 rfl)
theorem mulS{i j:Int}(h:-(2 ^ 64) < i∧i < 2 ^ 64):IntMulOk i j:=.of_left (intBits_le_64 h.1 h.2)
theorem mulS'{i j:Int}(h:-(2 ^ 64) < j∧j < 2 ^ 64):IntMulOk i j:=.of_right (intBits_le_64 h.1 h.2)
end DL
namespace CM
open PySem L2 DL
theorem sk_step:PyData.strOk (Str.ofString "step")=true:=by decide +kernel
theorem sq_step_step:((Str.ofString "step") == (Str.ofString "step"))=true:=by decide +kernel
theorem sq_step_call:((Str.ofString "step") == (Str.ofString "call"))=false:=by decide +kernel
theorem sq_step_in:((Str.ofString "step") == (Str.ofString "in"))=false:=by decide +kernel
theorem sq_step_over:((Str.ofString "step") == (Str.ofString "over"))=false:=by decide +kernel
theorem sq_step_begin:((Str.ofString "step") == (Str.ofString "begin"))=false:=by decide +kernel
theorem sq_step_start:((Str.ofString "step") == (Str.ofString "start"))=false:=by decide +kernel
theorem sq_step_short:((Str.ofString "step") == (Str.ofString "short"))=false:=by decide +kernel
theorem sq_step_along:((Str.ofString "step") == (Str.ofString "along"))=false:=by decide +kernel
theorem sq_step_within:((Str.ofString "step") == (Str.ofString "within"))=false:=by decide +kernel
theorem sq_step_at:((Str.ofString "step") == (Str.ofString "at"))=false:=by decide +kernel
theorem sq_step_out:((Str.ofString "step") == (Str.ofString "out"))=false:=by decide +kernel
theorem sk_call:PyData.strOk (Str.ofString "call")=true:=by decide +kernel
theorem sq_call_step:((Str.ofString "call") == (Str.ofString "step"))=false:=by decide +kernel
theorem sq_call_call:((Str.ofString "call") == (Str.ofString "call"))=true:=by decide +kernel
theorem sq_call_in:((Str.ofString "call") == (Str.ofString "in"))=false:=by decide +kernel
theorem sq_call_over:((Str.ofString "call") == (Str.ofString "over"))=false:=by decide +kernel
theorem sq_call_begin:((Str.ofString "call") == (Str.ofString "begin"))=false:=by decide +kernel
theorem sq_call_start:((Str.ofString "call") == (Str.ofString "start"))=false:=by decide +kernel
theorem sq_call_short:((Str.ofString "call") == (Str.ofString "short"))=false:=by decide +kernel
theorem sq_call_along:((Str.ofString "call") == (Str.ofString "along"))=false:=by decide +kernel
theorem sq_call_within:((Str.ofString "call") == (Str.ofString "within"))=false:=by decide +kernel
theorem sq_call_at:((Str.ofString "call") == (Str.ofString "at"))=false:=by decide +kernel
theorem sq_call_out:((Str.ofString "call") == (Str.ofString "out"))=false:=by decide +kernel
theorem sk_in:PyData.strOk (Str.ofString "in")=true:=by decide +kernel
theorem sq_in_step:((Str.ofString "in") == (Str.ofString "step"))=false:=by decide +kernel
theorem sq_in_call:((Str.ofString "in") == (Str.ofString "call"))=false:=by decide +kernel
theorem sq_in_in:((Str.ofString "in") == (Str.ofString "in"))=true:=by decide +kernel
theorem sq_in_over:((Str.ofString "in") == (Str.ofString "over"))=false:=by decide +kernel
theorem sq_in_begin:((Str.ofString "in") == (Str.ofString "begin"))=false:=by decide +kernel
theorem sq_in_start:((Str.ofString "in") == (Str.ofString "start"))=false:=by decide +kernel
theorem sq_in_short:((Str.ofString "in") == (Str.ofString "short"))=false:=by decide +kernel
theorem sq_in_along:((Str.ofString "in") == (Str.ofString "along"))=false:=by decide +kernel
theorem sq_in_within:((Str.ofString "in") == (Str.ofString "within"))=false:=by decide +kernel
theorem sq_in_at:((Str.ofString "in") == (Str.ofString "at"))=false:=by decide +kernel
theorem sq_in_out:((Str.ofString "in") == (Str.ofString "out"))=false:=by decide +kernel
theorem sk_over:PyData.strOk (Str.ofString "over")=true:=by decide +kernel
theorem sq_over_step:((Str.ofString "over") == (Str.ofString "step"))=false:=by decide +kernel
theorem sq_over_call:((Str.ofString "over") == (Str.ofString "call"))=false:=by decide +kernel
theorem sq_over_in:((Str.ofString "over") == (Str.ofString "in"))=false:=by decide +kernel
theorem sq_over_over:((Str.ofString "over") == (Str.ofString "over"))=true:=by decide +kernel
theorem sq_over_begin:((Str.ofString "over") == (Str.ofString "begin"))=false:=by decide +kernel
theorem sq_over_start:((Str.ofString "over") == (Str.ofString "start"))=false:=by decide +kernel
theorem sq_over_short:((Str.ofString "over") == (Str.ofString "short"))=false:=by decide +kernel
theorem sq_over_along:((Str.ofString "over") == (Str.ofString "along"))=false:=by decide +kernel
theorem sq_over_within:((Str.ofString "over") == (Str.ofString "within"))=false:=by decide +kernel
theorem sq_over_at:((Str.ofString "over") == (Str.ofString "at"))=false:=by decide +kernel
theorem sq_over_out:((Str.ofString "over") == (Str.ofString "out"))=false:=by decide +kernel
theorem sk_begin:PyData.strOk (Str.ofString "begin")=true:=by decide +kernel
theorem sq_begin_step:((Str.ofString "begin") == (Str.ofString "step"))=false:=by decide +kernel
theorem sq_begin_call:((Str.ofString "begin") == (Str.ofString "call"))=false:=by decide +kernel
theorem sq_begin_in:((Str.ofString "begin") == (Str.ofString "in"))=false:=by decide +kernel
theorem sq_begin_over:((Str.ofString "begin") == (Str.ofString "over"))=false:=by decide +kernel
theorem sq_begin_begin:((Str.ofString "begin") == (Str.ofString "begin"))=true:=by decide +kernel
theorem sq_begin_start:((Str.ofString "begin") == (Str.ofString "start"))=false:=by decide +kernel
theorem sq_begin_short:((Str.ofString "begin") == (Str.ofString "short"))=false:=by decide +kernel
theorem sq_begin_along:((Str.ofString "begin") == (Str.ofString "along"))=false:=by decide +kernel
theorem sq_begin_within:((Str.ofString "begin") == (Str.ofString "within"))=false:=by decide +kernel
theorem sq_begin_at:((Str.ofString "begin") == (Str.ofString "at"))=false:=by decide +kernel
theorem sq_begin_out:((Str.ofString "begin") == (Str.ofString "out"))=false:=by decide +kernel
theorem sk_start:PyData.strOk (Str.ofString "start")=true:=by decide +kernel
theorem sq_start_step:((Str.ofString "start") == (Str.ofString "step"))=false:=by decide +kernel
theorem sq_start_call:((Str.ofString "start") == (Str.ofString "call"))=false:=by decide +kernel
theorem sq_start_in:((Str.ofString "start") == (Str.ofString "in"))=false:=by decide +kernel
theorem sq_start_over:((Str.ofString "start") == (Str.ofString "over"))=false:=by decide +kernel
theorem sq_start_begin:((Str.ofString "start") == (Str.ofString "begin"))=false:=by decide +kernel
theorem sq_start_start:((Str.ofString "start") == (Str.ofString "start"))=true:=by decide +kernel
theorem sq_start_short:((Str.ofString "start") == (Str.ofString "short"))=false:=by decide +kernel
theorem sq_start_along:((Str.ofString "start") == (Str.ofString "along"))=false:=by decide +kernel
theorem sq_start_within:((Str.ofString "start") == (Str.ofString "within"))=false:=by decide +kernel
theorem sq_start_at:((Str.ofString "start") == (Str.ofString "at"))=false:=by decide +kernel
theorem sq_start_out:((Str.ofString "start") == (Str.ofString "out"))=false:=by decide +kernel
theorem sk_short:PyData.strOk (Str.ofString "short")=true:=by decide +kernel
theorem sq_short_step:((Str.ofString "short") == (Str.ofString "step"))=false:=by decide +kernel
theorem sq_short_call:((Str.ofString "short") == (Str.ofString "call"))=false:=by decide +kernel
theorem sq_short_in:((Str.ofString "short") == (Str.ofString "in"))=false:=by decide +kernel
theorem sq_short_over:((Str.ofString "short") == (Str.ofString "over"))=false:=by decide +kernel
theorem sq_short_begin:((Str.ofString "short") == (Str.ofString "begin"))=false:=by decide +kernel
theorem sq_short_start:((Str.ofString "short") == (Str.ofString "start"))=false:=by decide +kernel
theorem sq_short_short:((Str.ofString "short") == (Str.ofString "short"))=true:=by decide +kernel
theorem sq_short_along:((Str.ofString "short") == (Str.ofString "along"))=false:=by decide +kernel
theorem sq_short_within:((Str.ofString "short") == (Str.ofString "within"))=false:=by decide +kernel
theorem sq_short_at:((Str.ofString "short") == (Str.ofString "at"))=false:=by decide +kernel
theorem sq_short_out:((Str.ofString "short") == (Str.ofString "out"))=false:=by decide +kernel
theorem sk_along:PyData.strOk (Str.ofString "along")=true:=by decide +kernel
theorem sq_along_step:((Str.ofString "along") == (Str.ofString "step"))=false:=by decide +kernel
theorem sq_along_call:((Str.ofString "along") == (Str.ofString "call"))=false:=by decide +kernel
theorem sq_along_in:((Str.ofString "along") == (Str.ofString "in"))=false:=by decide +kernel
theorem sq_along_over:((Str.ofString "along") == (Str.ofString "over"))=false:=by decide +kernel
theorem sq_along_begin:((Str.ofString "along") == (Str.ofString "begin"))=false:=by decide +kernel
theorem sq_along_start:((Str.ofString "along") == (Str.ofString "start"))=false:=by decide +kernel
theorem sq_along_short:((Str.ofString "along") == (Str.ofString "short"))=false:=by decide +kernel
theorem sq_along_along:((Str.ofString "along") == (Str.ofString "along"))=true:=by decide +kernel
theorem sq_along_within:((Str.ofString "along") == (Str.ofString "within"))=false:=by decide +kernel
theorem sq_along_at:((Str.ofString "along") == (Str.ofString "at"))=false:=by decide +kernel
theorem sq_along_out:((Str.ofString "along") == (Str.ofString "out"))=false:=by decide +kernel
theorem sk_within:PyData.strOk (Str.ofString "within")=true:=by decide +kernel
theorem sq_within_step:((Str.ofString "within") == (Str.ofString "step"))=false:=by decide +kernel
theorem sq_within_call:((Str.ofString "within") == (Str.ofString "call"))=false:=by decide +kernel
theorem sq_within_in:((Str.ofString "within") == (Str.ofString "in"))=false:=by decide +kernel
theorem sq_within_over:((Str.ofString "within") == (Str.ofString "over"))=false:=by decide +kernel
theorem sq_within_begin:((Str.ofString "within") == (Str.ofString "begin"))=false:=by decide +kernel
theorem sq_within_start:((Str.ofString "within") == (Str.ofString "start"))=false:=by decide +kernel
theorem sq_within_short:((Str.ofString "within") == (Str.ofString "short"))=false:=by decide +kernel
theorem sq_within_along:((Str.ofString "within") == (Str.ofString "along"))=false:=by decide +kernel
theorem sq_within_within:((Str.ofString "within") == (Str.ofString "within"))=true:=by decide +kernel
theorem sq_within_at:((Str.ofString "within") == (Str.ofString "at"))=false:=by decide +kernel
theorem sq_within_out:((Str.ofString "within") == (Str.ofString "out"))=false:=by decide +kernel
theorem sk_at:PyData.strOk (Str.ofString "at")=true:=by decide +kernel
theorem sq_at_step:((Str.ofString "at") == (Str.ofString "step"))=false:=by decide +kernel
theorem sq_at_call:((Str.ofString "at") == (Str.ofString "call"))=false:=by decide +kernel
theorem sq_at_in:((Str.ofString "at") == (Str.ofString "in"))=false:=by decide +kernel
theorem sq_at_over:((Str.ofString "at") == (Str.ofString "over"))=false:=by decide +kernel
theorem sq_at_begin:((Str.ofString "at") == (Str.ofString "begin"))=false:=by decide +kernel
theorem sq_at_start:((Str.ofString "at") == (Str.ofString "start"))=false:=by decide +kernel
theorem sq_at_short:((Str.ofString "at") == (Str.ofString "short"))=false:=by decide +kernel
theorem sq_at_along:((Str.ofString "at") == (Str.ofString "along"))=false:=by decide +kernel
theorem sq_at_within:((Str.ofString "at") == (Str.ofString "within"))=false:=by decide +kernel
theorem sq_at_at:((Str.ofString "at") == (Str.ofString "at"))=true:=by decide +kernel
theorem sq_at_out:((Str.ofString "at") == (Str.ofString "out"))=false:=by decide +kernel
theorem sk_out:PyData.strOk (Str.ofString "out")=true:=by decide +kernel
theorem sq_out_step:((Str.ofString "out") == (Str.ofString "step"))=false:=by decide +kernel
theorem sq_out_call:((Str.ofString "out") == (Str.ofString "call"))=false:=by decide +kernel
theorem sq_out_in:((Str.ofString "out") == (Str.ofString "in"))=false:=by decide +kernel
theorem sq_out_over:((Str.ofString "out") == (Str.ofString "over"))=false:=by decide +kernel
theorem sq_out_begin:((Str.ofString "out") == (Str.ofString "begin"))=false:=by decide +kernel
theorem sq_out_start:((Str.ofString "out") == (Str.ofString "start"))=false:=by decide +kernel
theorem sq_out_short:((Str.ofString "out") == (Str.ofString "short"))=false:=by decide +kernel
theorem sq_out_along:((Str.ofString "out") == (Str.ofString "along"))=false:=by decide +kernel
theorem sq_out_within:((Str.ofString "out") == (Str.ofString "within"))=false:=by decide +kernel
theorem sq_out_at:((Str.ofString "out") == (Str.ofString "at"))=false:=by decide +kernel
theorem sq_out_out:((Str.ofString "out") == (Str.ofString "out"))=true:=by decide +kernel
end CM
namespace CM
open PySem L2 DL
inductive Kind where
 |step (t:List Nat) | call (g:Nat) (into back over:List Nat)
structure Edge where
 p:Nat
 q:Nat
 cost:Nat
 k:Kind
structure Fn where
 places:Nat
 facts:Nat
 edges:List Edge
noncomputable abbrev Chart:=List Fn
inductive Mv where | step | over | inn
 deriving DecidableEq
noncomputable abbrev nD(n:Nat):D:=.int (n:Int)
noncomputable def tD(t:List Nat):D:=.tup (t.map nD)
noncomputable def eD(e:Edge):D:=match e.k with
 |.step t=>.tup [.str "step",nD e.p,nD e.q,nD e.cost,tD t]
 |.call g i b o=>.tup [.str "call",nD e.p,nD e.q,nD e.cost,nD g,tD i,tD b,tD o]
theorem eD_1(h:Hh)(e:Edge):ixD h (eD e) (.int 1)=some (nD e.p):=by
 unfold eD;cases e.k <;> exact atI_1 ..
theorem eD_2(h:Hh)(e:Edge):ixD h (eD e) (.int 2)=some (nD e.q):=by
 unfold eD;cases e.k <;> exact atI_2 ..
theorem eD_3(h:Hh)(e:Edge):ixD h (eD e) (.int 3)=some (nD e.cost):=by
 unfold eD;cases e.k <;> exact atI_3 ..
noncomputable def tOk(t:List Nat)(n m:Nat):Prop:=t.length=n∧∀ x ∈ t,x < 2 ^ m
noncomputable def eOk(C:Chart)(F:Fn)(e:Edge):Prop:=e.p < F.places∧e.q < F.places∧1 ≤ e.cost∧e.cost ≤ 10 ^ 18∧match e.k with
 |.step t=>tOk t F.facts F.facts
 |.call g i b o=>∃ G,C[g]?=some G∧tOk i F.facts G.facts∧tOk b G.facts F.facts∧tOk o F.facts F.facts
structure WF(C:Chart):Prop where
 one:1 ≤ C.length
 six:C.length ≤ 6
 fn:∀ (f:Nat) (F:Fn),C[f]?=some F→1 ≤ F.places∧F.places ≤ 10∧1 ≤ F.facts∧F.facts ≤ 6∧F.edges.length ≤ 100∧∀ e ∈ F.edges,eOk C F e
noncomputable def ChD(h:Hh)(d:D)(C:Chart):Prop:=∃ fs,lsOf h d=some fs∧fs.length=C.length∧∀ (i:Nat) (F:Fn),C[i]?=some F→∃ e,fs[i]?=some (.tup [nD F.places,nD F.facts,e])∧lsOf h e=some (F.edges.map eD)
theorem ChD.fn{h:Hh}{d:D}{C:Chart}(c:ChD h d C){f:Nat}{F:Fn}(e:C[f]?=some F):∃ x,ixD h d (nD f)=some (.tup [nD F.places,nD F.facts,x])∧lsOf h x=some (F.edges.map eD):=by
 obtain ⟨fs,h1,h2,h3⟩:=c
 obtain ⟨x,a,b⟩:=h3 f F e
 exact ⟨x,by rw [ix_ls h1,atN];exact a,b⟩
theorem ChD.len{h:Hh}{d:D}{C:Chart}(c:ChD h d C):lenD h d=some C.length:=by
 obtain ⟨fs,h1,h2,h3⟩:=c
 rw [len_ls h1,h2]
noncomputable def fD(F:Fn):D:=.tup [nD F.places,nD F.facts,.lst (F.edges.map eD)]
noncomputable def cD(C:Chart):D:=.lst (C.map fD)
theorem band1(x:Nat):Builtin.bitAnd (x:Int) 1=((x % 2:Nat):Int):=by
 unfold Builtin.bitAnd
 rw [decide_eq_true (show (0:Int) ≤ (x:Int) by omega),decide_eq_true (show (0:Int) ≤ 1 by decide)]
 show (((x:Int).toNat &&& (1:Int).toNat:Nat):Int)=_
 have e1:((x:Int).toNat)=x:=by omega
 have e2:((1:Int).toNat)=1:=rfl
 rw [e1,e2,Nat.and_one_is_mod]
theorem shr_nat(m d:Nat):(m:Int) / 2 ^ d=((m / 2 ^ d:Nat):Int):=by
 have e:(2:Int) ^ d=((2 ^ d:Nat):Int):=by simp
 rw [e];exact (Int.natCast_ediv m (2 ^ d)).symm
theorem bitI(m d:Nat):Builtin.bitAnd ((m:Int) / 2 ^ d) 1=if m.testBit d then 1 else 0:=by
 rw [shr_nat,band1,Nat.testBit_eq_decide_div_mod_eq]
 have:=Nat.mod_two_eq_zero_or_one (m / 2 ^ d)
 rcases this with h | h <;> simp [h]
theorem bitE(m d:Nat):(Builtin.bitAnd ((m:Int) / 2 ^ d) 1 == 1)=m.testBit d:=by
 rw [bitI];cases m.testBit d <;> rfl
theorem bor_nat(a b:Nat):Builtin.bitOr (a:Int) (b:Int)=((a ||| b:Nat):Int):=by
 unfold Builtin.bitOr Builtin.bitAnd Builtin.bitNot
 rw [decide_eq_false (show ¬ (0:Int) ≤ -(a:Int) - 1 by omega),decide_eq_false (show ¬ (0:Int) ≤ -(b:Int) - 1 by omega)]
 dsimp only
 rw [show (-(-(a:Int) - 1) - 1).toNat=a by omega,show (-(-(b:Int) - 1) - 1).toNat=b by omega]
 omega
theorem shl1(k:Nat):(1:Int) * 2 ^ ((k:Nat):Int).toNat=((2 ^ k:Nat):Int):=by
 rw [Int.one_mul,Int.toNat_natCast];simp
theorem nrD_tD(t:List Nat):nrD (tD t)=true:=nrDs_map (fun _=>rfl) t
theorem flat_ints(ns:List Nat):(ns.map nD).all flatD=true:=by
 rw [List.all_map];simp [flatD,List.all_eq_true]
end CM
namespace CM
open PySem L2 DL
noncomputable def Pd(h:Hh)(d:D)(p:PyData)(n:Nat):Prop:=IsP h d p∧p.canLay0=true∧p.depth ≤ n
noncomputable def Pds(h:Hh)(ds:List D)(ps:List PyData)(n:Nat):Prop:=IsPs h ds ps∧PyData.canLayAll0 ps=true∧PyData.depthAll ps ≤ n
theorem Pd.int{h:Hh}{n:Nat}(i:Int):Pd h (.int i) (.int i) n:=⟨.int i,rfl,Nat.zero_le _⟩
theorem Pd.str{h:Hh}{n:Nat}{x:Str}(e:PyData.strOk x=true):Pd h (.str x) (.str x) n:=⟨.str x,e,Nat.zero_le _⟩
theorem Pds.nil{h:Hh}{n:Nat}:Pds h [] [] n:=⟨.nil,rfl,Nat.zero_le _⟩
theorem Pds.cons{h:Hh}{n:Nat}{d:D}{p:PyData}{ds:List D}{ps:List PyData}(a:Pd h d p n)(b:Pds h ds ps n):Pds h (d :: ds) (p :: ps) n :=
 ⟨.cons a.1 b.1,by show (p.canLay0 && PyData.canLayAll0 ps)=true;rw [a.2.1,b.2.1];rfl,by show max p.depth (PyData.depthAll ps) ≤ n;exact Nat.max_le.mpr ⟨a.2.2,b.2.2⟩⟩
theorem Pd.tup{h:Hh}{n:Nat}{ds:List D}{ps:List PyData}(a:Pds h ds ps n):Pd h (.tup ds) (.tuple ps) (n + 1):=⟨.tup a.1,a.2.1,Nat.succ_le_succ a.2.2⟩
theorem Pd.lst{h:Hh}{n:Nat}{ds:List D}{ps:List PyData}(a:Pds h ds ps n):Pd h (.lst ds) (.list ps) (n + 1):=⟨.lst a.1,a.2.1,Nat.succ_le_succ a.2.2⟩
theorem Pd.ref{h:Hh}{n i:Nat}{ds:List D}{ps:List PyData}(e:h[i]?=some (.lst ds))(a:Pds h ds ps n):Pd h (.ref i) (.list ps) (n + 1):=⟨.ref e a.1,a.2.1,Nat.succ_le_succ a.2.2⟩
theorem Pds.map{τ:Type}{h:Hh}{n:Nat}{f:τ→D}{g:τ→PyData}:∀ {xs:List τ},(∀ x,Pd h (f x) (g x) n)→Pds h (xs.map f) (xs.map g) n
 |[],_=>.nil
 |x :: xs,k=>.cons (k x) (Pds.map k)
theorem Pds.get{h:Hh}{n:Nat}:∀ {ds:List D} {ps:List PyData},ds.length=ps.length→(∀ (i:Nat) (d:D) (p:PyData),ds[i]?=some d→ps[i]?=some p→Pd h d p n)→Pds h ds ps n
 |[],[],_,_=>.nil
 |d :: ds,p :: ps,e,k=>.cons (k 0 d p rfl rfl) (Pds.get (by simpa using e) fun i a b h1 h2=>k (i + 1) a b (by simpa using h1) (by simpa using h2))
theorem Pd.shaped{h:Hh}{n:Nat}{d:D}{p:PyData}(a:Pd h d p n)(e:n ≤ 64):SeqAt.shaped p=true:=by
 unfold SeqAt.shaped
 rw [a.2.1,decide_eq_true (Nat.le_trans a.2.2 e)];rfl
theorem pEq_same{neg:Bool}{x y:D}{h:Hh}{Q:DK}{p:PyData}{n:Nat}(e:eqS x y=none)(a:Pd h x p n)(b:Pd h y p n)(hn:n ≤ 64)(q:Q (.bl (!neg)) h):pEq neg x y h Q:=by
 unfold pEq
 rw [e]
 refine ⟨p,p,a.1,b.1,a.shaped hn,b.shaped hn,?_⟩
 rw [SeqAt.eqv_refl p a.2.1]
 cases neg <;> exact q
noncomputable def tP(t:List Nat):PyData:=.tuple (t.map fun x:Nat=>.int (x:Int))
noncomputable def eP(e:Edge):PyData:=match e.k with
 |.step t=>.tuple [.str "step",.int e.p,.int e.q,.int e.cost,tP t]
 |.call g i b o=>.tuple [.str "call",.int e.p,.int e.q,.int e.cost,.int g,tP i,tP b,tP o]
theorem pd_t(h:Hh)(t:List Nat):Pd h (tD t) (tP t) 1:=Pd.tup (n:=0) (Pds.map fun x=>.int _)
theorem pd_e(h:Hh)(e:Edge):Pd h (eD e) (eP e) 2:=by
 unfold eD eP
 cases e.k with
 |step t=>exact .tup (.cons (.str sk_step) (.cons (.int _) (.cons (.int _) (.cons (.int _) (.cons (pd_t h t) .nil)))))
 |call g i b o=>exact .tup (.cons (.str sk_call) (.cons (.int _) (.cons (.int _) (.cons (.int _) (.cons (.int _) (.cons (pd_t h i) (.cons (pd_t h b) (.cons (pd_t h o) .nil))))))))
noncomputable def fP(F:Fn):PyData:=.tuple [.int F.places,.int F.facts,.list (F.edges.map eP)]
theorem pd_f(h:Hh)(F:Fn):Pd h (fD F) (fP F) 4:=.tup (.cons (.int _) (.cons (.int _) (.cons (.lst (Pds.map (pd_e h))) .nil)))
theorem pd_c(h:Hh)(C:Chart):Pd h (cD C) (.list (C.map fP)) 5:=.lst (Pds.map (pd_f h))
end CM
namespace CM
open PySem L2 DL
theorem atLast{α:Type}(xs:List α)(x:α):atI (xs ++ [x]) (-1)=some x:=by
 unfold atI ixN
 rw [if_neg (by decide),if_pos (by simp;omega)]
 show (xs ++ [x])[(-1 + ((xs ++ [x]).length:Int)).toNat]?=some x
 rw [show (-1 + ((xs ++ [x]).length:Int)).toNat=xs.length by simp;omega]
 simp
theorem src_pre{h:Hh}{d:D}{xs:List D}(e:lsOf h d=some xs):∃ w,(∀ h',Pre h h'→seqSrc h' d=some ⟨xs,w⟩)∧∀ ys h',Pre h h'→(Src.mk ys w).ok h':=by
 obtain ⟨w,e1,e2,e3⟩:=src_ls e
 refine ⟨w,fun h' p=>?_,fun ys h' p z hz=>p _ _ (e2 z hz)⟩
 obtain ⟨w',e4,e5,e6⟩:=src_ls (p.ls e)
 rw [e4]
 cases d with
 |lst ys=>cases e1;cases e4;rfl
 |scr ys=>cases e1;cases e4;rfl
 |ref i =>
  have e:(match h[i]? with | some (.lst xs)=>some xs | _=>none)=some xs:=e
  cases q:h[i]? with
  |none=>rw [q] at e;cases e
  |some o =>
   cases o with
   |lst ys =>
    rw [q] at e;cases e
    rw [seqSrc_ref q] at e1
    rw [seqSrc_ref (p _ _ q)] at e4
    cases e1;cases e4;rfl
   |dT _ _=>rw [q] at e;cases e
   |dK _=>rw [q] at e;cases e
   |ins _ _=>rw [q] at e;cases e
 |non=>cases e
 |bl _=>cases e
 |int _=>cases e
 |str _=>cases e
 |tup _=>cases e
 |exc _ _=>cases e
end CM
namespace CM
open PySem L2 DL
noncomputable def tb(ts:List Nat)(d e:Nat):Bool:=(ts.getD d 0).testBit e
noncomputable def pqD(x:Nat×Nat):D:=.tup [nD x.1,nD x.2]
noncomputable def put(ms:List Nat)(p:Nat×Nat):List Nat:=ms.set p.1 (ms.getD p.1 0 ||| 2 ^ p.2)
noncomputable def gath(n:Nat)(ps:List (Nat×Nat)):List Nat:=ps.foldl put (List.replicate n 0)
theorem put_len(ms:List Nat)(p:Nat×Nat):(put ms p).length=ms.length:=by unfold put;simp
theorem fold_len:∀ (ps:List (Nat×Nat)) (ms:List Nat),(ps.foldl put ms).length=ms.length
 |[],_=>rfl
 |p :: r,ms=>by rw [List.foldl_cons,fold_len r,put_len]
theorem gath_len(n:Nat)(ps:List (Nat×Nat)):(gath n ps).length=n:=by unfold gath;rw [fold_len,List.length_replicate]
theorem gath_snoc(n:Nat)(ps:List (Nat×Nat))(p:Nat×Nat):gath n (ps ++ [p])=put (gath n ps) p:=by unfold gath;rw [List.foldl_append];rfl
theorem getD_set(ms:List Nat)(i j v:Nat)(hi:i < ms.length):(ms.set i v).getD j 0=if i=j then v else ms.getD j 0:=by
 rw [List.getD_eq_getElem?_getD,List.getElem?_set,List.getD_eq_getElem?_getD]
 by_cases h:i=j
 ·subst h;simp [hi]
 ·simp [h]
theorem fold_bit(d e:Nat):∀ (ps:List (Nat×Nat)) (ms:List Nat),(∀ p ∈ ps,p.1 < ms.length) →
  (((ps.foldl put ms).getD d 0).testBit e=true ↔ (ms.getD d 0).testBit e=true∨(d,e) ∈ ps)
 |[],ms,_=>by simp
 |p :: r,ms,hp=>by
  obtain ⟨x,y⟩:=p
  rw [List.foldl_cons,fold_bit d e r _ (fun q hq=>by rw [put_len];exact hp q (by simp [hq])),List.mem_cons]
  have hx:x < ms.length:=hp (x,y) (by simp)
  have key:((put ms (x,y)).getD d 0).testBit e=true ↔ (ms.getD d 0).testBit e=true∨(d,e)=(x,y):=by
   show ((ms.set x (ms.getD x 0 ||| 2 ^ y)).getD d 0).testBit e=true ↔ _
   rw [getD_set _ _ _ _ hx]
   by_cases q:x=d
   ·subst q
    rw [if_pos rfl,Nat.testBit_or,Nat.testBit_two_pow,Bool.or_eq_true,decide_eq_true_eq]
    constructor
    ·rintro (h | h)
     ·exact .inl h
     ·subst h;exact .inr rfl
    ·rintro (h | h)
     ·exact .inl h
     ·injection h with _ h;exact .inr h.symm
   ·rw [if_neg q]
    constructor
    ·exact .inl
    ·rintro (h | h)
     ·exact h
     ·injection h with h _;exact absurd h.symm q
  rw [key,or_assoc]
theorem gath_bit{n:Nat}{ps:List (Nat×Nat)}(h:∀ p ∈ ps,p.1 < n)(d e:Nat):tb (gath n ps) d e=true ↔ (d,e) ∈ ps:=by
 unfold tb gath
 rw [fold_bit d e ps _ (fun p hp=>by rw [List.length_replicate];exact h p hp)]
 have z:((List.replicate n 0).getD d 0).testBit e=false:=by
  rw [List.getD_eq_getElem?_getD,List.getElem?_replicate]
  split <;> simp
 rw [z];simp
noncomputable def many(C:Chart):Nat:=(C.map fun F=>F.edges.length).sum
noncomputable def rwD(y:Fn×D):D:=.tup [nD y.1.places,nD y.1.facts,y.2]
theorem rows_of{h:Hh}:∀ {C:Chart} {fs:List D},fs.length=C.length→(∀ (i:Nat) (F:Fn),C[i]?=some F→∃ e,fs[i]?=some (.tup [nD F.places,nD F.facts,e])∧lsOf h e=some (F.edges.map eD))→∃ ys:List (Fn×D),fs=ys.map rwD∧ys.map (·.1)=C∧∀ y ∈ ys,lsOf h y.2=some (y.1.edges.map eD)
 |[],[],_,_=>⟨[],rfl,rfl,fun _ h=>nomatch h⟩
 |F :: C,d :: fs,hl,k=>by
  obtain ⟨e,h1,h2⟩:=k 0 F rfl
  cases h1
  obtain ⟨ys,h3,h4,h5⟩:=rows_of (C:=C) (fs:=fs) (by simpa using hl) fun i G hG=>by
   have:=k (i + 1) G (by simpa using hG)
   simpa using this
  refine ⟨(F,e) :: ys,by rw [h3];rfl,by rw [← h4];rfl,fun y hy=>?_⟩
  rcases List.mem_cons.mp hy with z | z
  ·rw [z];exact h2
  ·exact h5 y z
theorem ChD.rows{h:Hh}{d:D}{C:Chart}(c:ChD h d C):∃ ys:List (Fn×D),lsOf h d=some (ys.map rwD)∧ys.map (·.1)=C∧∀ y ∈ ys,lsOf h y.2=some (y.1.edges.map eD):=by
 obtain ⟨fs,h1,h2,h3⟩:=c
 obtain ⟨ys,h4,h5,h6⟩:=rows_of h2 h3
 exact ⟨ys,by rw [h1,h4],h5,h6⟩
end CM
namespace DL
open PySem PySem.Spec L2
section
variable {K:KP} {α:List Addr} {H:Hp}
end
section
variable {X:Cx} {cn f:Str} {a value:Expr} {fa fv:DE} {pos pos' tpos:Pos}
end
section
variable {X:Cx} {k l:Nat} {ps:List Str} {g:DSp} {cn m:Str} {o e:Expr} {es:List Expr} {fo:DE} {f:DA} {n:Nat} {pos apos:Pos}
end
section
variable {X:Cx} {k l:Nat} {ps:List Str} {g:DSp} {cn:Str} {e:Expr} {es:List Expr} {f:DA} {n:Nat} {p pos:Pos}
end
end DL
namespace DL
open PySem PySem.Spec L2
noncomputable def intsO:List D→Option (List Int)
 |[]=>some []
 |.int i :: r=>match intsO r with | some ns=>some (i :: ns) | none=>none
 |_=>none
noncomputable def pLtT:P2:=fun x y h Q=>match x,y with
 |.tup xs,.tup ys=>(match intsO xs,intsO ys with | some ns,some ms=>Q (.bl (HT.lexLt ns ms)) h | _,_=>False)
 |_,_=>False
noncomputable def pCatS:P2:=fun x y h Q=>match x,y with
 |.str i,.str j=>i.length + j.length ≤ 16777216∧Q (.str (i ++ j)) h
 |_,_=>False
noncomputable def pStr:PN:=fun ds h Q=>match ds with | [.int i]=>i.natAbs.log2 < 1920∧Q (.str (toString i)) h | _=>False
section
variable {X:Cx} {o e:Expr} {fo fe:DE} {cpos apos:Pos}
theorem ok_catS:OpR X (binaryOp .Add) (r2 X.K pCatS):=OpR.imp op_add_str fun x y H Q ⟨π,α,h,d,e,Q',R,r1,r2,f,k⟩=>by
 unfold pCatS at f
 cases r1 with
 |str i =>
  cases r2 with
  |str j=>exact ⟨i,j,rfl,rfl,by rw [sizeLine_eq];exact f.1,k _ h α H _ f.2 (Ext.refl ..) R (.str _)⟩
  |_=>exact f.elim
 |_=>exact f.elim
noncomputable def dPopAt(fo:DE)(fs:DA):DE:=fun δ h Q=>fo δ h fun d h1=>match d with
 |.ref i=>(match h1[i]? with
  |some (.lst _)=>fs δ h1 fun ds h2=>(match ds,h2[i]? with
   |[.int n],some (.lst xs)=>(0 ≤ n∧n < 2 ^ 62)∧(match xs[n.toNat]? with | some y=>Q y (h2.set i (.lst (xs.eraseIdx n.toNat))) | none=>False)
   |_,_=>False)
  |_=>False)
 |_=>False
theorem seqIx{n:Int}{m:Nat}(h0:0 ≤ n)(h1:n.toNat < m):seqIndex? n m=some n.toNat:=by
 unfold seqIndex?
 dsimp only
 have e:(if n < 0 then n + (m:Int) else n)=n:=if_neg (by omega)
 rw [e,decide_eq_true h0,decide_eq_true (show n < (m:Int) by omega)];rfl
theorem RelDs.erase{K:KP}{α:List Addr}{H:Hp}:∀ {ds:List D} {us:List V} (k:Nat),RelDs K α H ds us→RelDs K α H (ds.eraseIdx k) (us.eraseIdx k)
 |[],_,k,r=>by cases r;exact .nil
 |d :: ds,_,k,r=>by
  cases r with
  |cons h t=>cases k with
   |zero=>exact t
   |succ k=>exact .cons h (RelDs.erase k t)
theorem se_popAt{fs:DA}{n:Nat}(ho:SE X o fo)(ha:SA X [e] n fs)(hbase:attributeBase o "pop" X.env (eval o X.env)=eval o X.env:=by rfl)
  (hfew:((backTo cpos (starEach [e] X.env)).all (fun x=>!x.1) && (backToKw cpos (keywordEach [] X.env)).all (fun x=>x.1.isSome)
   && decide ([e].length + ([]:List Keyword).length + (if ([]:List Keyword).isEmpty then 0 else 1) < 30))=true:=by rfl)
  (hline:(apos.endLine == cpos.line)=true:=by rfl) (hs:starEach [e] X.env=(false,eval e X.env) :: starEach [] X.env:=by rfl) (hplain:(backTo cpos (starEach [] X.env)).any (·.1)=false:=by rfl) :
  SE X (.Call (.Attribute o "pop" apos) [e] [] cpos) (dPopAt fo fs) :=
 PE.imp (pe_bm PySem.F.plainAttrs_list PySem.F.slot_list_pop PySem.F.type_list_pop mt_popAt ho ha hbase hfew hline hs hplain) fun σ H Q ⟨π,α,δ,h,Q',R,S,f,k⟩=>by
  refine ⟨π,α,δ,h,_,R,S,f,fun d h1 α1 H1 v1 f1 e1 R1 q1=>?_⟩
  cases q1 with
  |@ref i a hp =>
   dsimp only at f1
   cases w:h1[i]? with
   |none=>rw [w] at f1;exact f1.elim
   |some ob =>
    rw [w] at f1
    cases ob with
    |lst xs =>
     obtain ⟨us,e2,e3⟩:=refL R1 hp w
     refine ⟨.inl ⟨rfl,us,SqL.of e2⟩,π,α1,δ,h1,_,R1,S.mono e1,f1,fun ds h2 α2 H2 vs f2 e2 R2 q2 l2=>?_⟩
     split at f2
     ·rename_i m ys w2
      obtain ⟨u,rfl,q9⟩:=q2.inv1
      cases q9
      have hp2:=e2.get hp
      obtain ⟨us2,g2,g3⟩:=refL R2 hp2 w2
      obtain ⟨⟨h0,h62⟩,f2⟩:=f2
      cases y:ys[m.toNat]? with
      |none=>rw [y] at f2;exact f2.elim
      |some z =>
       rw [y] at f2
       obtain ⟨u',g4,g5⟩:=g3.get y
       have e4:Ext α2 H2 α2 (upd H2 a (.lst (us2.eraseIdx m.toNat))):=Ext.write (List.mem_of_getElem? hp2)
       exact ⟨a,us2,m,m.toNat,u',rfl,rfl,g2,by omega,by omega,seqIx h0 (List.getElem?_eq_some_iff.mp g4).1,g4,k _ _ α2 _ _ f2 (e1.trans (e2.trans e4)) (R2.write hp2 (.lst upd_same ((g3.erase m.toNat).mono e4))) (g5.mono e4)⟩
     ·exact f2.elim
    |_=>exact f1.elim
  |_=>exact f1.elim
end
end DL
namespace DL
open PySem PySem.Spec L2
end DL
namespace L2
open PySem PySem.Spec PyProof.Rows
section
variable {X:Cx}
theorem vals_rng:∀ (us:List Value) (a:Int),(∀ (j:Nat) (v:Value),us[j]?=some v→∃ t,v=Value.int (a + (j:Int)) t)→Vals ((List.range us.length).map fun k=>V.int (a + (k:Nat))) us
 |[],_,_=>.nil
 |u :: us,a,h=>by
  rw [List.length_cons,List.range_succ_eq_map,List.map_cons,List.map_map]
  refine .cons ?_ ?_
  ·obtain ⟨t,e⟩:=h 0 u rfl
   exact ⟨t,e⟩
  ·have:=vals_rng us (a + 1) fun j v e=>by
    obtain ⟨t,q⟩:=h (j + 1) v (by simpa using e)
    exact ⟨t,by rw [q];congr 1;omega⟩
   have e:(List.range us.length).map ((fun k:Nat=>V.int (a + (k:Nat))) ∘ Nat.succ)=(List.range us.length).map fun k:Nat=>V.int (a + 1 + (k:Nat)):=List.map_congr_left fun k _=>by
    show V.int (a + ((k + 1:Nat):Int))=V.int (a + 1 + (k:Int))
    congr 1;omega
   rw [e];exact this
theorem call_list_rng(hc:X.calm=true):CallR X (.type "list") (fun xs H Q=>∃ p i j,xs=[.ref p]∧H p=some (.rng i j)∧(-(2 ^ 62) ≤ i∧i < 2 ^ 62∧-(2 ^ 62) ≤ j∧j < 2 ^ 62)∧(j - i).toNat ≤ 16777216∧∀ l,H l=none→Q (.ref l) (upd H l (.lst ((List.range (j - i).toNat).map fun k=>V.int (i + (k:Nat)))))):=by
 intro pins s σ H xs us Q I r h
 obtain ⟨p,i,j,rfl,hp,⟨b1,b2,b3,b4⟩,hz,q⟩:=h
 obtain ⟨u,rfl,rx⟩:=vals1 r
 cases rx
 obtain ⟨t,u,v,ho⟩:=I.hok p _ hp
 refine call_list_range (n:=(j - i).toNat) (I.ok.hd hc) ho (small_one b1 b2 b3 b4) (by rw [rangeSize_one];split <;> omega) hz fun h' tk acc c' kp e it=>?_
 have r':Vals ((List.range (j - i).toNat).map fun k=>V.int (i + (k:Nat))) acc.toList:=by
  have:=vals_rng acc.toList i fun m v e=>by
   obtain ⟨t,z⟩:=it.2 m v (by rw [← Array.getElem?_toList];exact e)
   exact ⟨t,by rw [z];congr 1;omega⟩
  rw [Array.length_toList,it.1] at this
  exact this
 exact ⟨.ref s.heap.objs.size,_,I.laid (t':=tk) kp (Nat.le_refl _) (show ObjOk X.prog X.w _ h' _ (.lst _) from ⟨by rw [sizeLine_eq,List.length_map,List.length_range];exact hz,acc.toList,c',r',e⟩),rfl,q _ (I.hok.fresh (Nat.le_refl _))⟩
end
end L2
namespace DL
open PySem PySem.Spec L2
theorem relDs_range{K:KP}{α:List Addr}{H:Hp}(i:Int)(n:Nat):RelDs K α H (rangeD i n) ((List.range n).map fun k=>V.int (i + (k:Nat))):=by
 rw [rangeD_map]
 generalize List.range n=l
 induction l with
 |nil=>exact .nil
 |cons a r ih=>exact .cons (.int _) ih
section
variable {X:Cx} {a b:Expr} {p p2 pos pos2:Pos} {n:Nat} {f:DA}
end
end DL
namespace L2
open PySem PySem.Spec PyProof.Rows
section
variable {X:Cx}
noncomputable def tRng1(ta:TA):TE:=fun σ H Q=>ta σ H fun vs H1=>∃ j:Int,vs=[.int j]∧∀ l,H1 l=none→Q (.ref l) (upd H1 l (.rng 0 j))
theorem pe_range1{b:Expr}{ta:TA}{p pos:Pos}(hg:Gl X "range")(hm:X.mg "range" = none)(ha:PA X [b] ta)(hs:starEach [b] X.env=(false,eval b X.env) :: starEach [] X.env:=by rfl)(hs2:(backTo pos (starEach [] X.env)).any (·.1)=false:=by rfl) :
  PE X (.Call (.Name "range" p) [b] [] pos) (tRng1 ta):=by
 intro pins s σ H Q I h
 refine Call_ (ld_blt I hg hm boot_range (PyProof.Rows.callWith_type1 (thn (ha pos pins s σ H _ I h) fun us s1 ⟨vs,H1,I1,r1,q1⟩=>?_) hs hs2))
 obtain ⟨j,e,q⟩:=q1
 subst e
 cases r1 with
 |cons r rr =>
  cases rr
  obtain ⟨t,rfl⟩:=r
  refine call_range_1 ?_
  exact ⟨.ref s1.heap.objs.size,_,I1.laid (fun b o e=>Heap.get?_push_of_some _ e) (Nat.le_refl _) (show ObjOk X.prog X.w _ _ _ (.rng 0 j) from ⟨_,_,_,Heap.get?_push_size _ rfl⟩),rfl,q _ (I1.hok.fresh (Nat.le_refl _))⟩
end
end L2
namespace DL
open PySem PySem.Spec L2
noncomputable def dListRng1(f:DA):DN:=fun δ h Q=>f δ h fun ds h1=>match ds with
 |[.int j]=>(-(2 ^ 62) ≤ j∧j < 2 ^ 62)∧j.toNat ≤ 16777216∧Q (rangeD 0 j.toNat) h1
 |_=>False
section
variable {X:Cx} {b:Expr} {p p2 pos pos2:Pos} {n:Nat} {f:DA}
theorem sn_listRng1(hc:X.calm=true)(hg:Gl X "list")(hm:X.mg "list" = none)(hg2:Gl X "range")(hm2:X.mg "range" = none)(ha:SA X [b] n f)(hs:starEach [b] X.env=(false,eval b X.env) :: starEach [] X.env:=by rfl)(hs2:(backTo pos2 (starEach [] X.env)).any (·.1)=false:=by rfl)
  (he:starEach [.Call (.Name "range" p2) [b] [] pos2] X.env=(false,eval (.Call (.Name "range" p2) [b] [] pos2) X.env) :: starEach [] X.env:=by rfl) (hpl:(backTo pos (starEach [] X.env)).any (·.1)=false:=by rfl) :
  SN X (.Call (.Name "list" p) [.Call (.Name "range" p2) [b] [] pos2] [] pos) (dListRng1 f):=PE.imp (pe_callTy (call_list_rng hc) hg hm PyProof.Rows.boot_list (pa_cons (pe_range1 hg2 hm2 ha hs hs2) pa_nil he) (by decide) (by decide) he hpl) fun σ H Q ⟨π,α,δ,h,Q',R,S,f,k⟩=>by
 refine ⟨π,α,δ,h,_,R,S,f,fun ds h1 α1 H1 vs f1 e1 R1 q1 l1=>?_⟩
 split at f1
 ·rename_i j
  obtain ⟨b1,hz,q⟩:=f1
  cases q1 with
  |cons r2 q1 =>
    cases q1
    cases r2
    refine ⟨j,rfl,fun l hl=>?_⟩
    have e2:Ext α1 H1 α1 (upd H1 l (.rng 0 j)):=Ext.new hl
    have e3:(j - 0).toNat=j.toNat:=by rw [Int.sub_zero]
    refine ⟨l,0,j,rfl,upd_same,⟨by decide,by decide,b1.1,b1.2⟩,by rw [e3];exact hz,fun l2 hl2=>?_⟩
    rw [e3]
    exact LN.last (h:=h) k q (e1.trans e2) (R1.new hl) (relDs_range 0 _) hl2
 ·exact f1.elim
end
end DL
namespace L2
open PySem PySem.Spec PyProof.Rows
noncomputable def slS(x:Str)(lo hi:Option Int):Str:=if (Builtin.Str.strSliceIndices lo hi 1 x.length).length == x.length then x else ⟨((Builtin.Str.strSliceIndices lo hi 1 x.length).filterMap (x.cps[·]?)).toArray⟩
section
variable {X:Cx} {tg:Expr}
noncomputable def occ(x y:Str):Bool:=!(Builtin.Str.occurrences x y 0 x.length 1).isEmpty
theorem mt_sindex:MtR X "str.index" (fun x xs H Q=>∃ s y i rest,x = .str s∧xs=[.str y]∧Builtin.Str.occurrences s y 0 s.length 1=i :: rest∧Q (.int (i:Nat)) H):=by
 intro pins s σ H x vs v us Q I rx rv h
 obtain ⟨a,y,i,rest,rfl,rfl,ho,q⟩:=h
 obtain ⟨t,rfl⟩:=rx
 obtain ⟨u,rfl,ru⟩:=vals1 rv
 obtain ⟨t',rfl⟩:=ru
 exact SC.index ho ⟨.int i,H,I.tok _,⟨_,rfl⟩,q⟩
theorem sl_str:SlR X (fun x lo hi H Q=>∃ s,x = .str s∧(slS s lo hi).length ≤ sizeLine∧Q (.str (slS s lo hi)) H):=by
 intro pins s σ H x v vl vu lo hi sl Q I rx hs pl pu h
 obtain ⟨a,rfl,hz,q⟩:=h
 obtain ⟨t,rfl⟩:=rx
 refine ⟨"str",_,F.slot_str_getitem.lookup,typeIs_str _ _ _,?_⟩
 have key:∀ (l u:Option (Int×Tok)),l.map (·.1)=lo→u.map (·.1)=hi→(sliceMade a t l u none).post (EP X pins σ Q) s:=fun l u e1 e2=>by
  unfold sliceMade slicePicked
  rw [e1,e2]
  unfold slS at hz q
  refine post_val_or_str ⟨?_,fun t' k=>?_⟩
  ·simpa using hz
  ·refine ⟨.str _,H,I.tok _,⟨t',rfl⟩,?_⟩
   simpa using q
 cases pl with
 |none =>
  cases pu with
  |none=>exact wpAny_getItem_str_slice (l:=none) (u:=none) (st:=none) hs rfl (key none none rfl rfl)
  |int j tj=>exact wpAny_getItem_str_slice (l:=none) (u:=some (j,tj)) (st:=none) hs rfl (key none (some (j,tj)) rfl rfl)
 |int i ti =>
  cases pu with
  |none=>exact wpAny_getItem_str_slice (l:=some (i,ti)) (u:=none) (st:=none) hs rfl (key (some (i,ti)) none rfl rfl)
  |int j tj=>exact wpAny_getItem_str_slice (l:=some (i,ti)) (u:=some (j,tj)) (st:=none) hs rfl (key (some (i,ti)) (some (j,tj)) rfl rfl)
end
end L2
namespace DL
open PySem PySem.Spec L2
noncomputable def strItems(x:Str):List D:=x.cps.toList.map fun c=>.str ⟨#[c]⟩
noncomputable def dIStr(f:DE):DI:=fun δ h Q=>f δ h fun d h1=>match d with | .str x=>Q ⟨strItems x,[]⟩ h1 | _=>False
noncomputable def pLeS:P2:=fun x y h Q=>match x,y with
 |.str i,.str j=>Q (.bl (!decide (j.cps.toList < i.cps.toList))) h
 |_,_=>False
noncomputable def pInS(neg:Bool):P2:=fun x y h Q=>match x,y with
 |.str i,.str j=>Q (.bl (if neg then !occ j i else occ j i)) h
 |_,_=>False
noncomputable def pIntS:PN:=fun ds h Q=>match ds with | [.str x]=>x.length ≤ 640∧∃ n,PySem.intText? x=some n∧Q (.int n) h | _=>False
noncomputable def dSlS(fe:DE)(fl fh:DO):DE:=fun δ h Q=>fe δ h fun d h1=>fl δ h1 fun l h2=>fh δ h2 fun u h3=>match d with
 |.str x=>(slS x l u).length ≤ 16777216∧Q (.str (slS x l u)) h3
 |_=>False
noncomputable def dIndexS(fo:DE)(fs:DA):DE:=fun δ h Q=>fo δ h fun d h1=>match d with
 |.str x=>fs δ h1 fun ds h2=>match ds with
  |[.str y]=>∃ i rest,Builtin.Str.occurrences x y 0 x.length 1=i :: rest∧Q (.int ((i:Nat):Int)) h2
  |_=>False
 |_=>False
noncomputable def dNinK(ws:List Str)(fe:DE):DE:=fun δ h Q=>fe δ h fun d h1=>match d with
 |.str x=>Q (.bl (!(ws.any fun y=>y == x))) h1
 |_=>False
noncomputable def dIRev(f:DA):DI:=fun δ h Q=>f δ h fun ds h1=>match ds with
 |[.lst xs]=>Q ⟨xs.reverse,[]⟩ h1
 |_=>False
section
variable {X:Cx} {tg e:Expr} {fe:DE} {pos p2 cpos apos:Pos}
theorem se_slS{lo hi:Option Expr}{fl fh:DO}(he:SE X e fe)(hl:SO X lo fl)(hu:SO X hi fh):SE X (.Subscript e (.Slice lo hi none p2) pos) (dSlS fe fl fh):=PE.imp (pe_slice sl_str he hl hu) fun σ H Q ⟨π,α,δ,h,Q',R,S,f,k⟩=>by
 refine ⟨π,α,δ,h,_,R,S,f,fun d h1 α1 H1 v1 f1 e1 R1 q1=>?_⟩
 refine ⟨π,α1,δ,h1,_,R1,S.mono e1,f1,fun l h2 α2 H2 f2 e2 R2=>?_⟩
 refine ⟨π,α2,δ,h2,_,R2,S.mono (e1.trans e2),f2,fun u h3 α3 H3 f3 e3 R3=>?_⟩
 cases q1 with
 |str x=>exact ⟨x,rfl,by rw [sizeLine_eq];exact f3.1,k _ h3 α3 H3 _ f3.2 (e1.trans (e2.trans e3)) R3 (.str _)⟩
 |_=>exact f3.elim
theorem se_indexS{a:Expr}{fa:DA}{n:Nat}(ho:SE X e fe)(ha:SA X [a] n fa)(hbase:attributeBase e "index" X.env (eval e X.env)=eval e X.env:=by rfl)
  (hfew:((backTo cpos (starEach [a] X.env)).all (fun x=>!x.1) && (backToKw cpos (keywordEach [] X.env)).all (fun x=>x.1.isSome)
   && decide ([a].length + ([]:List Keyword).length + (if ([]:List Keyword).isEmpty then 0 else 1) < 30))=true:=by rfl)
  (hline:(apos.endLine == cpos.line)=true:=by rfl) (hs:starEach [a] X.env=(false,eval a X.env) :: starEach [] X.env:=by rfl) (hplain:(backTo cpos (starEach [] X.env)).any (·.1)=false:=by rfl) :
  SE X (.Call (.Attribute e "index" apos) [a] [] cpos) (dIndexS fe fa) :=
 PE.imp (pe_bm PySem.F.plainAttrs_str PySem.F.slot_str_index PySem.F.type_str_index mt_sindex ho ha hbase hfew hline hs hplain) fun σ H Q ⟨π,α,δ,h,Q',R,S,f,k⟩=>by
  refine ⟨π,α,δ,h,_,R,S,f,fun d h1 α1 H1 v1 f1 e1 R1 q1=>?_⟩
  cases q1 with
  |str x =>
   refine ⟨rfl,π,α1,δ,h1,_,R1,S.mono e1,f1,fun ds h2 α2 H2 vs f2 e2 R2 q2 l2=>?_⟩
   split at f2
   ·rename_i y
    obtain ⟨i,rest,ho',q⟩:=f2
    obtain ⟨v,rfl,q3⟩:=q2.inv1
    cases q3
    exact ⟨x,y,i,rest,rfl,rfl,ho',k _ h2 α2 H2 _ q (e1.trans e2) R2 (.int _)⟩
   ·exact f2.elim
  |_=>exact f1.elim
end
noncomputable def strsOf:List Expr→Option (List Str)
 |[]=>some []
 |.Constant (.str x) _ _ :: r=>match strsOf r with | some ws=>some (x :: ws) | none=>none
 |_=>none
noncomputable def dStrs:List Str→DA
 |[]=>dNil
 |w :: ws=>dCons (dC (.str w)) (dStrs ws)
theorem sa_strs{X:Cx}:∀ {es:List Expr} {ws:List Str},strsOf es=some ws→SA X es es.length (dStrs ws)
 |[],ws,h=>by cases h;exact sa_nil
 |e :: es,ws,h=>by
  cases e with
  |Constant c j pos =>
   cases c with
   |str x =>
    have h:(match strsOf es with | some ws=>some (x :: ws) | none=>none)=some ws:=h
    cases q:strsOf es with
    |none=>rw [q] at h;cases h
    |some vs =>
     rw [q] at h
     cases h
     exact sa_cons se_str (sa_strs q) rfl
   |_=>cases h
  |_=>cases h
theorem strs_len:∀ {es:List Expr} {ws:List Str},strsOf es=some ws→es.length=ws.length
 |[],ws,h=>by cases h;rfl
 |e :: es,ws,h=>by
  cases e with
  |Constant c j pos =>
   cases c with
   |str x =>
    have h:(match strsOf es with | some ws=>some (x :: ws) | none=>none)=some ws:=h
    cases q:strsOf es with
    |none=>rw [q] at h;cases h
    |some vs =>
     rw [q] at h
     cases h
     show es.length + 1=vs.length + 1
     rw [strs_len q]
   |_=>cases h
  |_=>cases h
theorem sn_strs{X:Cx}{es:List Expr}{pos:Pos}(ws:List Str)(h:strsOf es=some ws:=by rfl)(hw:ws.length ≤ 1000:=by decide):SN X (.List es pos) (dStrs ws) :=
 sn_lst (sa_strs h) (by rw [strs_len h,sizeLine_eq];omega)
end DL
namespace CM
open PySem L2 DL
end CM
namespace L2
open PySem PySem.Spec PyProof.Rows
noncomputable abbrev zL2(h:Heap)(l1 l2:Addr):Heap:=(zT1 h l1).push { cls:=.type "list_iterator",data:=.fields #[.ref l2,.int 0 0] }
noncomputable abbrev zL3(h:Heap)(l1 l2:Addr):Heap:=(zL2 h l1 l2).push { cls:=.type "tuple",data:=.seq #[.ref h.objs.size,.ref (zT1 h l1).objs.size] }
noncomputable abbrev zL4(h:Heap)(l1 l2:Addr):Heap:=(zL3 h l1 l2).push { cls:=.type "tuple",data:=.seq #[.none,.none] }
noncomputable abbrev zL5(h:Heap)(l1 l2:Addr):Heap:=(zL4 h l1 l2).push { cls:=.type "zip",data:=.fields #[.none,.bool false,.bool false,.ref (zL2 h l1 l2).objs.size,.ref (zL3 h l1 l2).objs.size] }
theorem meets_zip_newTL(l1 l2:Addr)(xs ys:Array Value):Meets (Builtin.«zip.__new__» ⟨[.type "zip",.ref l1,.ref l2],[]⟩) (fun _ R s=>s.heap.IsTuple l1 xs∧s.heap.IsList l2 ys∧R (.ok (.ret (.ref (zL4 s.heap l1 l2).objs.size))) { s with heap:=zL5 s.heap l1 l2 }) :=
 .of_wp fun prog w A R s h=>by
  obtain ⟨hp,g,d,tk,os⟩:=s;obtain ⟨hl1,hl2,h⟩:=h
  have hsub:=sub_zip
  have q1:Heap.IsTuple (Shared.heap ⟨hp,g,d,tk,os⟩) l1 xs:=hl1
  have q2:Heap.IsList (Shared.heap ⟨hp.push { cls:=.type "tuple_iterator",data:=.fields #[.ref l1,.int 0 0] },g,d,tk,os⟩) l2 ys:=let ⟨o,e,r⟩:=hl2;⟨o,Heap.get?_push_of_some _ e,r⟩
  wp_walk using wpAny_pyIter_tuple q1,wpAny_pyIter_list q2
  exact ⟨_,rfl,h⟩
theorem call_zipTL{prog:Program}{w:World}{A:Around}{E:Value→Shared→Prop}{s:Shared}{l1 l2:Addr}{xs ys:Array Value}{Q:Value→Shared→Prop}(hl1:s.heap.IsTuple l1 xs)(hl2:s.heap.IsList l2 ys)
  (h:∀ h',IsZip h' (s.heap.objs.size + 4) (s.heap.objs.size + 2) (s.heap.objs.size + 3) .none→IsPair h' (s.heap.objs.size + 2) (.ref s.heap.objs.size) (.ref (s.heap.objs.size + 1)) →
   IsPair h' (s.heap.objs.size + 3) .none .none→h'.IsTupleIter s.heap.objs.size l1 0→h'.IsListIter (s.heap.objs.size + 1) l2 0→(∀ c o,s.heap.get? c=some o→h'.get? c=some o)→Q (.ref (s.heap.objs.size + 4)) { s with heap:=h' }) :
  wpAny (model prog w) A (call (.type "zip") [.ref l1,.ref l2]) Q E s:=by
 refine callType_new F.called_zip (by decide) (F.typeCall_zip_2 _ _) (F.newCall_zip_2 _ _) (fun obj=>F.args_object_init_3 obj _ _) F.entry_zip_new (meets_zip_newTL l1 l2 xs ys) ⟨hl1,hl2,?_⟩
 have z1:(zT1 s.heap l1).objs.size=s.heap.objs.size + 1:=Heap.size_push ..
 have z2:(zL2 s.heap l1 l2).objs.size=s.heap.objs.size + 2:=by rw [Heap.size_push,z1]
 have z3:(zL3 s.heap l1 l2).objs.size=s.heap.objs.size + 3:=by rw [Heap.size_push,z2]
 have z4:(zL4 s.heap l1 l2).objs.size=s.heap.objs.size + 4:=by rw [Heap.size_push,z3]
 have up1:∀ {c o},(zL4 s.heap l1 l2).get? c=some o→(zL5 s.heap l1 l2).get? c=some o:=fun q=>Heap.get?_push_of_some _ q
 have up2:∀ {c o},(zL3 s.heap l1 l2).get? c=some o→(zL5 s.heap l1 l2).get? c=some o:=fun q=>up1 (Heap.get?_push_of_some _ q)
 have up3:∀ {c o},(zL2 s.heap l1 l2).get? c=some o→(zL5 s.heap l1 l2).get? c=some o:=fun q=>up2 (Heap.get?_push_of_some _ q)
 have up4:∀ {c o},(zT1 s.heap l1).get? c=some o→(zL5 s.heap l1 l2).get? c=some o:=fun q=>up3 (Heap.get?_push_of_some _ q)
 have g5:(zL5 s.heap l1 l2).get? (zL4 s.heap l1 l2).objs.size=some _:=Heap.get?_push_size _ rfl
 have g4:(zL5 s.heap l1 l2).get? (zL3 s.heap l1 l2).objs.size=some _:=up1 (Heap.get?_push_size _ rfl)
 have g3:(zL5 s.heap l1 l2).get? (zL2 s.heap l1 l2).objs.size=some _:=up2 (Heap.get?_push_size _ rfl)
 have g2:(zL5 s.heap l1 l2).get? (zT1 s.heap l1).objs.size=some _:=up3 (Heap.get?_push_size _ rfl)
 have g1:(zL5 s.heap l1 l2).get? s.heap.objs.size=some _:=up4 (Heap.get?_push_size _ rfl)
 show _∧_
 rw [z2,z3,z4] at g5
 rw [z1,z2] at g3
 rw [z3] at g4
 rw [z1] at g2
 rw [z4]
 exact ⟨⟨_,g5,rfl⟩,h _ g5 g3 g4 ⟨_,g1,rfl,rfl⟩ ⟨_,g2,rfl,rfl⟩ fun c o x=>up4 (Heap.get?_push_of_some _ x)⟩
section
variable {X:Cx}
noncomputable def iZipM(K:PySem.W.Frag)(ta:TA):TI:=fun σ H R=>ta σ H fun vs H1=>∃ a b,vs=[.ref a,.ref b]∧(∃ xs,SqT K H1 a xs)∧(((∃ ys,SqT K H1 b ys)∧R (Itz (fun H xs=>SqT K H a xs) (fun H ys=>SqT K H b ys)) H1)∨((∃ ys,SqL K H1 b ys)∧R (Itz (fun H xs=>SqT K H a xs) (fun H ys=>SqL K H b ys)) H1))
theorem pi_zipM{a b:Expr}{ta:TA}{p pos:Pos}{tg:Expr}(hg:Gl X "zip")(hm:X.mg "zip" = none)(ha:PA X [a,b] ta)(htg:∃ es x1 pos,tg = .Tuple es x1 pos:=by exact ⟨_,_,_,rfl⟩)(hs:starEach [a,b] X.env=(false,eval a X.env) :: starEach [b] X.env:=by rfl)(hp:(backTo pos (starEach [b] X.env)).any (·.1)=false:=by rfl):PI X tg (.Call (.Name "zip" p) [a,b] [] pos) (iZipM X.K ta):=by
 intro pins s σ H R I h
 refine Call_ (ld_blt I hg hm boot_zip (PyProof.Rows.callWith_type1 (thn (ha pos pins s σ H _ I h) fun us s1 ⟨vs,H1,I1,r1,q1⟩=>?_) hs hp))
 obtain ⟨a,b,e,⟨xs,hq1⟩,q1⟩:=q1
 subst e
 obtain ⟨u,v,rfl,ru,rv⟩:=vals2 r1
 cases ru
 cases rv
 obtain ⟨its1,rv1,p1,_⟩:=I1.tuple hq1
 have l1:a < s1.heap.objs.size:=let ⟨_,e,_⟩:=p1;Heap.lt_size e
 rcases q1 with ⟨⟨ys,hq2⟩,q⟩ | ⟨⟨ys,hq2⟩,q⟩
 ·obtain ⟨its2,rv2,p2,_⟩:=I1.tuple hq2
  have l2:b < s1.heap.objs.size:=let ⟨_,e,_⟩:=p2;Heap.lt_size e
  exact call_zipT (show s1.heap.IsTuple a its1.toArray from p1) (show s1.heap.IsTuple b its2.toArray from p2) fun h' hz hTI hTO t1 t2 hk=>zip_fin htg I1 l1 l2 (src_tup a _) (src_tup b _) hz hTI hTO t1 t2 hk q
 ·obtain ⟨its2,rv2,p2,_⟩:=I1.list hq2
  have l2:b < s1.heap.objs.size:=let ⟨_,e,_⟩:=p2.isList;Heap.lt_size e
  exact call_zipTL (show s1.heap.IsTuple a its1.toArray from p1) p2.isList fun h' hz hTI hTO t1 t2 hk=>zip_fin htg I1 l1 l2 (src_tup a _) (src_list b _) hz hTI hTO t1 t2 hk q
end
end L2
namespace DL
open PySem PySem.Spec L2
noncomputable def zipD(xs ys:List D):List D:=(xs.zip ys).map fun p=>.tup [p.1,p.2]
theorem it_zip{K:PySem.W.Frag}{π α:List Addr}{H:Hp}{Q1 Q2:Hp→List V→Prop}{S1 S2:Src}(s1:SeqA K π α H Q1 S1.items S1.w)(s2:SeqA K π α H Q2 S2.items S2.w)(hl:S1.items.length=S2.items.length):ItA K π α H (Itz Q1 Q2) ⟨zipD S1.items S2.items,S1.w ++ S2.w⟩:=fun π' sub=>by
 obtain ⟨T1,i1,t1⟩:=s1 π' sub
 obtain ⟨T2,i2,t2⟩:=s2 π' sub
 refine ⟨fun α H=>T1 α H∧T2 α H,⟨fun α H α' H' st e=>⟨i1.keep _ _ _ _ st.1 e,i2.keep _ _ _ _ st.2 e⟩,fun α H H' D st e hD=>⟨i1.priv _ _ _ _ st.1 e hD,i2.priv _ _ _ _ st.2 e hD⟩,fun α H h i d R st ok hi=>?_,fun α H h R st ok=>?_⟩,t1,t2⟩
 ·obtain ⟨us,hq1,r1⟩:=i1.get α H h R st.1 fun p hp=>ok p (List.mem_append_left _ hp)
  obtain ⟨ws,hq2,r2⟩:=i2.get α H h R st.2 fun p hp=>ok p (List.mem_append_right _ hp)
  have hi:(zipD S1.items S2.items)[i]?=some d:=hi
  unfold zipD at hi
  rw [List.getElem?_map] at hi
  cases q:(S1.items.zip S2.items)[i]? with
  |none=>rw [q] at hi;cases hi
  |some p =>
   rw [q] at hi
   cases hi
   rw [List.getElem?_zip_eq_some] at q
   obtain ⟨u,hu,ru⟩:=r1.get q.1
   obtain ⟨v,hv,rv⟩:=r2.get q.2
   refine ⟨⟨us,ws,u,v,hq1,hq2,hu,hv⟩,fun x H' ⟨T,x',y',e0,hT,e1,e2,e3⟩=>?_⟩
   subst e0 e1
   obtain rfl:=Option.some.inj ((e2 us hq1).symm.trans hu)
   obtain rfl:=Option.some.inj ((e3 ws hq2).symm.trans hv)
   have e4:Ext α H α (upd H T (.tup [x',y'])):=Ext.new hT
   exact ⟨e4,R.new hT,.tup ⟨R.out hT,R.outP hT,upd_same⟩ (.cons (ru.mono e4) (.cons (rv.mono e4) .nil))⟩
 ·obtain ⟨us,hq1,r1⟩:=i1.get α H h R st.1 fun p hp=>ok p (List.mem_append_left _ hp)
  obtain ⟨ws,hq2,r2⟩:=i2.get α H h R st.2 fun p hp=>ok p (List.mem_append_right _ hp)
  refine ⟨us,ws,hq1,hq2,?_⟩
  show us.length=(zipD S1.items S2.items).length
  unfold zipD
  rw [List.length_map,List.length_zip,← hl,Nat.min_self,r1.length]
theorem tup_seqA{K:PySem.W.Frag}{π α:List Addr}{H:Hp}{xs:List D}{v:V}(r:RelD ⟨K,π⟩ α H (.tup xs) v):∃ a,v = .ref a∧(∃ us,SqT K H a us)∧SeqA K π α H (fun H us=>SqT K H a us) xs []:=by
 cases r with
 |@tup a us ds t rs=>exact ⟨a,rfl,⟨us,t.sq⟩,fun π' s=>⟨fun α H=>VT ⟨K,π'⟩ α H a us∧RelDs ⟨K,π'⟩ α H xs us,⟨fun α H α' H' st e=>⟨st.1.mono e,st.2.mono e⟩,fun α H H' D st e hD=>⟨st.1.priv e hD,st.2.priv e hD⟩,fun α H h R st _=>⟨us,st.1.sq,st.2⟩⟩,t.more s,rs.more s⟩⟩
noncomputable def dIZip(f:DA):DI:=fun δ h Q=>f δ h fun ds h1=>∃ xs y S,ds=[.tup xs,y]∧seqSrc h1 y=some S∧xs.length=S.items.length∧Q ⟨zipD xs S.items,S.w⟩ h1
theorem si_zip{X:Cx}{tg a b:Expr}{n:Nat}{fs:DA}{p pos:Pos}(hg:Gl X "zip")(hm:X.mg "zip" = none)(ha:SA X [a,b] n fs)(htg:∃ es x1 pos,tg = .Tuple es x1 pos:=by exact ⟨_,_,_,rfl⟩)(hs:starEach [a,b] X.env=(false,eval a X.env) :: starEach [b] X.env:=by rfl)(hp:(backTo pos (starEach [b] X.env)).any (·.1)=false:=by rfl):SI X tg (.Call (.Name "zip" p) [a,b] [] pos) (dIZip fs):=PI.imp (pi_zipM hg hm ha htg hs hp) fun σ H Q zz0=>by
 obtain ⟨π,α,δ,h,Q',R,S,f,k⟩:=zz0
 refine ⟨π,α,δ,h,_,R,S,f,fun ds h1 α1 H1 vs f1 e1 R1 q1 l1=>?_⟩
 obtain ⟨xs,y,S2,rfl,hy,hl,f1⟩:=f1
 obtain ⟨v1,v2,rfl,r1,r2⟩:=q1.inv2
 obtain ⟨a,rfl,hu,sa⟩:=tup_seqA r1
 obtain ⟨b,rfl,ok2,⟨hv,sb⟩ | ⟨hv,sb⟩⟩:=seqSrc_ok R1 r2 hy
 ·exact ⟨a,b,rfl,hu,.inr ⟨hv,k _ h1 α1 H1 _ f1 e1 R1 (it_zip (S1:=⟨xs,[]⟩) sa sb hl) ok2⟩⟩
 ·exact ⟨a,b,rfl,hu,.inl ⟨hv,k _ h1 α1 H1 _ f1 e1 R1 (it_zip (S1:=⟨xs,[]⟩) sa sb hl) ok2⟩⟩
end DL
namespace L2
open PySem PySem.Spec PyProof.Rows
theorem ints_of:∀ {ns:List Int} {vs:List Value},Vals (ns.map V.int) vs→IntsAre vs ns
 |[],_,.nil=>.nil
 |n :: ns,_,.cons ⟨t,rfl⟩ h=>.cons n t (ints_of h)
section
variable {X:Cx}
theorem mt_lindex:MtR X "list.index" (fun x xs H Q=>∃ (a:Addr) (ns:List Int) (k:Int),x = .ref a∧xs=[.int k]∧SqL X.K H a (ns.map V.int)∧ns.length ≤ 100∧k ∈ ns∧Q (.int (ns.idxOf k:Nat)) H):=by
 intro pins s σ H x vs v us Q I rx rv h
 obtain ⟨a,ns,k,rfl,rfl,hq,hl,hk,q⟩:=h
 cases rx
 obtain ⟨u,rfl,ru⟩:=vals1 rv
 obtain ⟨t',rfl⟩:=ru
 obtain ⟨its,rv1,p,_⟩:=I.list hq
 have ii:=ints_of rv1
 have il:=ii.length
 have lt:ns.idxOf k < ns.length:=List.idxOf_lt_length_iff.mpr hk
 obtain ⟨⟨cls,dd,data,sl⟩,ob,oc,m,od⟩:=p.isList
 simp only at oc od
 subst oc od
 have lt':ns.idxOf k < its.length:=by rw [il];exact lt
 have e1:isInt k (its.toArray[ns.idxOf k]'(by rw [List.size_toArray];exact lt'))=true:=by
  show isInt k its[ns.idxOf k]=true
  rw [isInt_at k ii _ lt' lt,List.getElem_idxOf lt];exact beq_self_eq_true k
 refine call_meets PySem.F.slot_list_index ⟨_,ob,rfl⟩ PySem.F.entry_list_index (PySem.F.args_list_index_2 _ _) (PySem.SeqAt.list_indexAt a its.toArray m dd sl _ (isInt k) (ns.idxOf k) (by rw [List.size_toArray];exact lt') (by omega) e1 fun i hi hlt=>?_) ⟨ob,fun y hy=>?_,⟨.int (ns.idxOf k:Nat),H,I.tok _,⟨_,rfl⟩,q⟩⟩
 ·have hi:i < its.length:=by rw [List.size_toArray] at hi;exact hi
  show isInt k its[i]=false
  rw [isInt_at k ii i hi (by rw [← il];exact hi)]
  exact ne_of_lt_idxOf hlt _
 ·exact (eq_isInt k _ ii y (List.mem_toArray.mp hy)).at _ _
end
end L2
namespace DL
open PySem PySem.Spec L2
noncomputable def dIndexL(fo:DE)(fs:DA):DE:=fun δ h Q=>fo δ h fun d h1=>(lsOf h1 d).isSome=true∧fs δ h1 fun ds h2=>∃ (ns:List Int) (k:Int),ds=[.int k]∧lsOf h2 d=some (ns.map D.int)∧ns.length ≤ 100∧k ∈ ns∧Q (.int (ns.idxOf k:Nat)) h2
theorem se_indexL{X:Cx}{e a:Expr}{fe:DE}{fa:DA}{n:Nat}{apos cpos:Pos}(ho:SE X e fe)(ha:SA X [a] n fa)(hbase:attributeBase e "index" X.env (eval e X.env)=eval e X.env:=by rfl)
  (hfew:((backTo cpos (starEach [a] X.env)).all (fun x=>!x.1) && (backToKw cpos (keywordEach [] X.env)).all (fun x=>x.1.isSome)
   && decide ([a].length + ([]:List Keyword).length + (if ([]:List Keyword).isEmpty then 0 else 1) < 30))=true:=by rfl)
  (hline:(apos.endLine == cpos.line)=true:=by rfl) (hs:starEach [a] X.env=(false,eval a X.env) :: starEach [] X.env:=by rfl) (hplain:(backTo cpos (starEach [] X.env)).any (·.1)=false:=by rfl) :
  SE X (.Call (.Attribute e "index" apos) [a] [] cpos) (dIndexL fe fa) :=
 PE.imp (pe_bm PySem.F.plainAttrs_list PySem.F.slot_list_index PySem.F.type_list_index mt_lindex ho ha hbase hfew hline hs hplain) fun σ H Q zz=>by
  obtain ⟨π,α,δ,h,Q',R,S,f,k⟩:=zz
  refine ⟨π,α,δ,h,_,R,S,f,fun d h1 α1 H1 v1 f1 e1 R1 q1=>?_⟩
  obtain ⟨hi,f1⟩:=f1
  obtain ⟨xs,hx⟩:=Option.isSome_iff_exists.mp hi
  obtain ⟨p,us,rfl,sq,_⟩:=lsOf_sq R1 q1 hx
  refine ⟨.inl ⟨rfl,us,sq⟩,π,α1,δ,h1,_,R1,S.mono e1,f1,fun ds h2 α2 H2 vs f2 e2 R2 q2 l2=>?_⟩
  obtain ⟨ns,i,rfl,hl,hn,hk,q⟩:=f2
  obtain ⟨v,rfl,q3⟩:=q2.inv1
  cases q3
  obtain ⟨p2,us2,e3,sq2,r2⟩:=lsOf_sq R2 (q1.mono e2) hl
  cases e3
  cases r2.ints_inv
  exact ⟨p,ns,i,rfl,rfl,sq2,hn,hk,k _ h2 α2 H2 _ q (e1.trans e2) R2 (.int _)⟩
end DL
namespace DL
open PySem PySem.Spec L2
noncomputable def dGetD2(k1:Str)(f1:DE)(k2:Str)(f2:DE)(fk fx:DE):DE:=fun δ h Q=>f1 δ h fun x h1=>f2 δ h1 fun y h2=>fk δ h2 fun k h3=>fx δ h3 fun z h4=>∃ w,k = .str w∧k1 ≠ k2∧Q (if w=k1 then x else if w=k2 then y else z) h4
theorem disp2{k1 k2 w:Str}{v1 v2:V}(hk:k1 ≠ k2):valV (mergeK [] [(.inr k1,v1),(.inr k2,v2)]) (.inr w)=if w=k1 then some v1 else if w=k2 then some v2 else none:=by
 have e:mergeK [] [(.inr k1,v1),(.inr k2,v2)]=[(.inr k1,v1),(.inr k2,v2)]:=by
  show putK (putK [] (Sum.inr k1:Key) v1) (Sum.inr k2:Key) v2=_
  unfold putK
  simp [hk]
 rw [e]
 unfold valV
 by_cases c:w=k1
 ·subst c;simp
 ·by_cases c2:w=k2
  ·subst c2;simp [hk,c]
  ·simp [c,c2,Ne.symm c,Ne.symm c2,fun z:k1=w=>c z.symm,fun z:k2=w=>c2 z.symm]
theorem se_getD2{X:Cx}{v1 v2 e f:Expr}{k1 k2:Str}{f1 f2 fk fx:DE}{j1 j2}{p1 p2 pd apos cpos:Pos}(hu:X.A.units + 64 < cLine)(h1:SE X v1 f1)(h2:SE X v2 f2)(he:SE X e fk)(hf:SE X f fx)
  (m:M2 X (.Dict [some (.Constant (.str k1) j1 p1),some (.Constant (.str k2) j2 p2)] [v1,v2] pd) "get" apos e f cpos) :
  SE X (.Call (.Attribute (.Dict [some (.Constant (.str k1) j1 p1),some (.Constant (.str k2) j2 p2)] [v1,v2] pd) "get" apos) [e,f] [] cpos) (dGetD2 k1 f1 k2 f2 fk fx) :=
 PE.imp (pe_dget2 (by omega) (pe_disp (pps_cons pe_str h1 (pps_cons pe_str h2 pps_nil)) rfl rfl (by simp) (show 2 ≤ 15 by decide)) he hf m) fun σ H Q zz=>by
  obtain ⟨π,α,δ,h,Q',R,S,g,k⟩:=zz
  intro p hp
  have sub:∀ q ∈ p :: π,q ∈ π∨H q=none:=fun q hq=>by
   rcases List.mem_cons.mp hq with rfl | z
   ·exact .inr hp
   ·exact .inl z
  have back:∀ q ∈ π,q ∈ p :: π∨True:=fun q hq=>.inl (List.mem_cons_of_mem _ hq)
  have hin:p ∈ (KP.mk X.K (p :: π)).π:=List.mem_cons_self
  have e0:Ext α H α (upd H p (.dK [])):=Ext.new hp
  have R0:HRel ⟨X.K,p :: π⟩ α (upd H p (.dK [])) h:=R.under hp
  have S0:RelS ⟨X.K,p :: π⟩ α (upd H p (.dK [])) δ σ:=(S.more sub).mono e0
  refine ⟨p :: π,α,δ,h,_,R0,S0,g,fun x h1 α1 H1 u1 g1 e1 R1 r1=>?_⟩
  refine ⟨p :: π,α1,δ,h1,_,R1,S0.mono e1,g1,fun y h2 α2 H2 u2 g2 e2 R2 r2=>?_⟩
  have e02:=e1.trans e2
  have hH2:H2 p=some (.dK []):=e02.keep _ _ upd_same (R.out hp)
  refine ⟨hH2,[(.inr k1,u1),(.inr k2,u2)],rfl,(show 2 ≤ 15 by decide),p,rfl,.inl ⟨_,.inl upd_same⟩,?_⟩
  have pv:Priv p H2 (upd H2 p (.dK (mergeK [] [(.inr k1,u1),(.inr k2,u2)]))):=⟨fun b hb=>upd_ne hb⟩
  have R3:=R2.priv pv hin (by rw [upd_same];exact ⟨(fun z=>by cases z),fun _ z=>by cases z⟩)
  have nD:p ∉ α2:=(R2.dis p hin).1
  refine ⟨p :: π,α2,δ,h2,_,R3,(S0.mono e02).priv pv hin,g2,fun kk h3 α3 H3 u3 g3 e3 R4 r3=>?_⟩
  refine ⟨p :: π,α3,δ,h3,_,R4,((S0.mono e02).priv pv hin).mono e3,g3,fun zz h4 α4 H4 u4 g4 e4 R5 r4=>?_⟩
  obtain ⟨w,rfl,hk,q⟩:=g4
  have e34:=e3.trans e4
  have hH4:H4 p=some (.dK (mergeK [] [(.inr k1,u1),(.inr k2,u2)])):=e34.keep _ _ upd_same nD
  cases r3
  refine ⟨_,.inl ⟨_,.inr w,.inl hH4,rfl,rfl⟩,?_⟩
  rw [disp2 hk]
  have eA:Ext α H α4 H4:=((e0.trans e02).grow hp).trans e34
  have less:∀ {d:D} {v:V},RelD ⟨X.K,p :: π⟩ α4 H4 d v→RelD ⟨X.K,π⟩ α4 H4 d v:=fun r=>r.more fun q hq=>.inl (List.mem_cons_of_mem _ hq)
  by_cases c:w=k1
  ·rw [if_pos c] at q ⊢
   exact k _ h4 α4 H4 _ q eA R5.less (less ((((r1.mono e2).priv pv hin).mono e34)))
  ·rw [if_neg c] at q ⊢
   by_cases c2:w=k2
   ·rw [if_pos c2] at q ⊢
    exact k _ h4 α4 H4 _ q eA R5.less (less ((r2.priv pv hin).mono e34))
   ·rw [if_neg c2] at q ⊢
    exact k _ h4 α4 H4 _ q eA R5.less (less r4)
end DL
namespace K64w
open PySem
theorem sk_number_:PyData.strOk (Str.ofString "number")=true:=by decide +kernel
theorem sk_copy_:PyData.strOk (Str.ofString "copy")=true:=by decide +kernel
theorem sk_does_:PyData.strOk (Str.ofString "does")=true:=by decide +kernel
theorem sk_dye_:PyData.strOk (Str.ofString "dye")=true:=by decide +kernel
theorem sk_wash_:PyData.strOk (Str.ofString "wash")=true:=by decide +kernel
theorem sk_if_:PyData.strOk (Str.ofString "if")=true:=by decide +kernel
theorem sk_to_:PyData.strOk (Str.ofString "to")=true:=by decide +kernel
theorem sk_return_:PyData.strOk (Str.ofString "return")=true:=by decide +kernel
theorem sq_number_if_:((Str.ofString "number") == (Str.ofString "if"))=false:=by decide +kernel
theorem sq_number_to_:((Str.ofString "number") == (Str.ofString "to"))=false:=by decide +kernel
theorem sq_number_return_:((Str.ofString "number") == (Str.ofString "return"))=false:=by decide +kernel
theorem sq_number_dye_:((Str.ofString "number") == (Str.ofString "dye"))=false:=by decide +kernel
theorem sq_number_call_:((Str.ofString "number") == (Str.ofString "call"))=false:=by decide +kernel
theorem sq_number_copy_:((Str.ofString "number") == (Str.ofString "copy"))=false:=by decide +kernel
theorem sq_number_does_:((Str.ofString "number") == (Str.ofString "does"))=false:=by decide +kernel
theorem sq_copy_if_:((Str.ofString "copy") == (Str.ofString "if"))=false:=by decide +kernel
theorem sq_copy_to_:((Str.ofString "copy") == (Str.ofString "to"))=false:=by decide +kernel
theorem sq_copy_return_:((Str.ofString "copy") == (Str.ofString "return"))=false:=by decide +kernel
theorem sq_copy_dye_:((Str.ofString "copy") == (Str.ofString "dye"))=false:=by decide +kernel
theorem sq_copy_call_:((Str.ofString "copy") == (Str.ofString "call"))=false:=by decide +kernel
theorem sq_copy_copy_:((Str.ofString "copy") == (Str.ofString "copy"))=true:=by decide +kernel
theorem sq_copy_does_:((Str.ofString "copy") == (Str.ofString "does"))=false:=by decide +kernel
theorem sq_does_if_:((Str.ofString "does") == (Str.ofString "if"))=false:=by decide +kernel
theorem sq_does_to_:((Str.ofString "does") == (Str.ofString "to"))=false:=by decide +kernel
theorem sq_does_return_:((Str.ofString "does") == (Str.ofString "return"))=false:=by decide +kernel
theorem sq_does_dye_:((Str.ofString "does") == (Str.ofString "dye"))=false:=by decide +kernel
theorem sq_does_call_:((Str.ofString "does") == (Str.ofString "call"))=false:=by decide +kernel
theorem sq_does_copy_:((Str.ofString "does") == (Str.ofString "copy"))=false:=by decide +kernel
theorem sq_does_does_:((Str.ofString "does") == (Str.ofString "does"))=true:=by decide +kernel
theorem sq_dye_if_:((Str.ofString "dye") == (Str.ofString "if"))=false:=by decide +kernel
theorem sq_dye_to_:((Str.ofString "dye") == (Str.ofString "to"))=false:=by decide +kernel
theorem sq_dye_return_:((Str.ofString "dye") == (Str.ofString "return"))=false:=by decide +kernel
theorem sq_dye_dye_:((Str.ofString "dye") == (Str.ofString "dye"))=true:=by decide +kernel
theorem sq_dye_call_:((Str.ofString "dye") == (Str.ofString "call"))=false:=by decide +kernel
theorem sq_dye_copy_:((Str.ofString "dye") == (Str.ofString "copy"))=false:=by decide +kernel
theorem sq_dye_does_:((Str.ofString "dye") == (Str.ofString "does"))=false:=by decide +kernel
theorem sq_wash_if_:((Str.ofString "wash") == (Str.ofString "if"))=false:=by decide +kernel
theorem sq_wash_to_:((Str.ofString "wash") == (Str.ofString "to"))=false:=by decide +kernel
theorem sq_wash_return_:((Str.ofString "wash") == (Str.ofString "return"))=false:=by decide +kernel
theorem sq_wash_dye_:((Str.ofString "wash") == (Str.ofString "dye"))=false:=by decide +kernel
theorem sq_wash_call_:((Str.ofString "wash") == (Str.ofString "call"))=false:=by decide +kernel
theorem sq_wash_copy_:((Str.ofString "wash") == (Str.ofString "copy"))=false:=by decide +kernel
theorem sq_wash_does_:((Str.ofString "wash") == (Str.ofString "does"))=false:=by decide +kernel
theorem sq_if_if_:((Str.ofString "if") == (Str.ofString "if"))=true:=by decide +kernel
theorem sq_if_to_:((Str.ofString "if") == (Str.ofString "to"))=false:=by decide +kernel
theorem sq_if_return_:((Str.ofString "if") == (Str.ofString "return"))=false:=by decide +kernel
theorem sq_if_dye_:((Str.ofString "if") == (Str.ofString "dye"))=false:=by decide +kernel
theorem sq_if_call_:((Str.ofString "if") == (Str.ofString "call"))=false:=by decide +kernel
theorem sq_if_copy_:((Str.ofString "if") == (Str.ofString "copy"))=false:=by decide +kernel
theorem sq_if_does_:((Str.ofString "if") == (Str.ofString "does"))=false:=by decide +kernel
theorem sq_to_if_:((Str.ofString "to") == (Str.ofString "if"))=false:=by decide +kernel
theorem sq_to_to_:((Str.ofString "to") == (Str.ofString "to"))=true:=by decide +kernel
theorem sq_to_return_:((Str.ofString "to") == (Str.ofString "return"))=false:=by decide +kernel
theorem sq_to_dye_:((Str.ofString "to") == (Str.ofString "dye"))=false:=by decide +kernel
theorem sq_to_call_:((Str.ofString "to") == (Str.ofString "call"))=false:=by decide +kernel
theorem sq_to_copy_:((Str.ofString "to") == (Str.ofString "copy"))=false:=by decide +kernel
theorem sq_to_does_:((Str.ofString "to") == (Str.ofString "does"))=false:=by decide +kernel
theorem sq_return_if_:((Str.ofString "return") == (Str.ofString "if"))=false:=by decide +kernel
theorem sq_return_to_:((Str.ofString "return") == (Str.ofString "to"))=false:=by decide +kernel
theorem sq_return_return_:((Str.ofString "return") == (Str.ofString "return"))=true:=by decide +kernel
theorem sq_return_dye_:((Str.ofString "return") == (Str.ofString "dye"))=false:=by decide +kernel
theorem sq_return_call_:((Str.ofString "return") == (Str.ofString "call"))=false:=by decide +kernel
theorem sq_return_copy_:((Str.ofString "return") == (Str.ofString "copy"))=false:=by decide +kernel
theorem sq_return_does_:((Str.ofString "return") == (Str.ofString "does"))=false:=by decide +kernel
theorem sq_call_if_:((Str.ofString "call") == (Str.ofString "if"))=false:=by decide +kernel
theorem sq_call_to_:((Str.ofString "call") == (Str.ofString "to"))=false:=by decide +kernel
theorem sq_call_return_:((Str.ofString "call") == (Str.ofString "return"))=false:=by decide +kernel
theorem sq_call_dye_:((Str.ofString "call") == (Str.ofString "dye"))=false:=by decide +kernel
theorem sq_call_copy_:((Str.ofString "call") == (Str.ofString "copy"))=false:=by decide +kernel
theorem sq_call_does_:((Str.ofString "call") == (Str.ofString "does"))=false:=by decide +kernel
end K64w
namespace L2
open PySem PySem.Spec PyProof.Rows DL
section
variable {X:Cx}
theorem op_cat0:OpR X (binaryOp .Add) (fun x y H Q=>∃ a b ys,x = .ref a∧y = .ref b∧SqT X.K H a []∧SqT X.K H b ys∧Q (.ref b) H):=by
 intro pins s σ H x y v u Q I rx ry h
 obtain ⟨a,b,ys,rfl,rfl,ha,hb,q⟩:=h
 cases rx
 cases ry
 obtain ⟨its,r1,p1,_⟩:=I.tuple ha
 obtain ⟨its2,r2,p2,_⟩:=I.tuple hb
 cases r1
 obtain ⟨⟨cls,dd,data,sl⟩,ho,hc,n,hd⟩:=p1
 obtain ⟨⟨cls2,dd2,data2,sl2⟩,ho2,hc2,n2,hd2⟩:=p2
 simp only at hc hd hc2 hd2
 subst hc hd hc2 hd2
 exact concat_meets ⟨_,ho,rfl⟩ ⟨_,ho2,rfl⟩ noFill_tuple_add seq_tuple_add PySem.F.slot_tuple_add PySem.F.entry_tuple_add (PySem.F.args_tuple_add_2 _ _) (tuple_addW0 a b _ _ n n2 dd dd2 sl sl2 rfl) ⟨ho,ho2,⟨.ref b,H,I,rfl,q⟩⟩
end
end L2
namespace DL
open PySem PySem.Spec L2
section
variable {X:Cx}
noncomputable def pCatT:P2:=fun x y h Q=>match x,y with | .tup a,.tup b=>a.length + b.length ≤ 16777216∧Q (.tup (a ++ b)) h | _,_=>False
theorem ok_catT:OpR X (binaryOp .Add) (r2 X.K pCatT):=OpR.imp (op_cat0.or ok_add) fun x y H Q zz0=>by
 obtain ⟨π,α,h,d,e,Q',R,r1,r2,f,k⟩:=zz0
 unfold pCatT at f
 split at f
 ·rename_i a b
  by_cases z:a=[]
  ·subst z
   obtain ⟨p,us,rfl,hq,rs⟩:=tup_sq r1
   obtain ⟨p2,us2,rfl,hq2,rs2⟩:=tup_sq r2
   cases rs
   exact .inl ⟨p,p2,us2,rfl,rfl,hq,hq2,k _ h α H _ f.2 (Ext.refl ..) R r2⟩
  ·exact .inr ⟨π,α,h,_,_,Q',R,r1,r2,⟨z,f⟩,k⟩
 ·exact f.elim
end
end DL
namespace CM
open PySem L2 DL
theorem beq0(a:Nat):((a:Int) == 0)=decide (a=0):=by rw [Bool.eq_iff_iff];simp
theorem beq1p(a x:Nat):((a:Int) == 1 + (x:Int))=decide (a=1 + x):=by rw [Bool.eq_iff_iff];simp;omega
theorem inF_two(a b c:Nat):inF (.int (a:Int)) [.int (b:Int),.int (c:Int)]=(decide (a=b) || decide (a=c)):=by
 show (((b:Int) == (a:Int)) || (((c:Int) == (a:Int)) || false))=_
 rw [beqS,beqS,Bool.or_false]
theorem inF_two1(a b c:Nat):inF (.int (a:Int)) [.int (1 + (b:Int)),.int (1 + (c:Int))]=(decide (a=1 + b) || decide (a=1 + c)):=by
 rw [show (1 + (b:Int))=((1 + b:Nat):Int) by omega,show (1 + (c:Int))=((1 + c:Nat):Int) by omega]
 exact inF_two a (1 + b) (1 + c)
noncomputable def toIf:List D:=[.str "to",.str "if"]
theorem ti_to:inF (.str "to") toIf=true:=by kernel_rfl
theorem ti_if:inF (.str "if") toIf=true:=by kernel_rfl
theorem ti_dye:inF (.str "dye") toIf=false:=by kernel_rfl
theorem ti_wash:inF (.str "wash") toIf=false:=by kernel_rfl
theorem ti_copy:inF (.str "copy") toIf=false:=by kernel_rfl
theorem ti_does:inF (.str "does") toIf=false:=by kernel_rfl
theorem ti_number:inF (.str "number") toIf=false:=by kernel_rfl
theorem ti_call:inF (.str "call") toIf=false:=by kernel_rfl
end CM
namespace CM
open PySem L2 DL
noncomputable def lw(l:List Nat):Str:=⟨(l.map fun i=>97 + i).toArray⟩
noncomputable abbrev abc:Str:=Str.ofString "abcdefghijklmnopqrstuvwxyz"
theorem abc_cps:abc.cps.toList=(List.range 26).map fun i=>97 + i:=by kernel_rfl
theorem abc_len:abc.length=26:=by
 show abc.cps.size=26
 rw [← Array.length_toList,abc_cps];rfl
theorem lw_nil:Str.ofString "" = lw []:=by kernel_rfl
theorem lw_len(l:List Nat):(lw l).length=l.length:=by
 show (lw l).cps.size=_
 unfold lw;simp
theorem lw_cat(a b:List Nat):lw a ++ lw b=lw (a ++ b):=by
 show (⟨(lw a).cps ++ (lw b).cps⟩:Str)=_
 unfold lw;simp
theorem lw_inj{a b:List Nat}(h:lw a=lw b):a=b:=by
 unfold lw at h
 have h:=congrArg (fun s:Str=>s.cps.toList) h
 have h:a.map (fun i=>97 + i)=b.map fun i=>97 + i:=by simpa using h
 exact List.map_inj_right (fun x y q=>by omega) |>.mp h
theorem abc_at{i:Nat}(h:i < 26):strAt abc (i:Int)=some (.str (lw [i])):=by
 unfold strAt
 rw [if_pos (by rw [abc_len];decide),abc_cps]
 have:atI ((List.range 26).map fun i=>97 + i) (i:Int)=some (97 + i):=by
  unfold atI
  rw [List.length_map,List.length_range,ixN_nat h]
  simp [h]
 rw [this];rfl
theorem lw_at(l:List Nat)(c:Nat)(hl:l.length ≤ 100):strAt (lw (l ++ [c])) ((l.length:Nat):Int)=some (.str (lw [c])):=by
 unfold strAt
 rw [if_pos (by rw [lw_len];simp;omega)]
 have:atI (lw (l ++ [c])).cps.toList ((l.length:Nat):Int)=some (97 + c):=by
  unfold atI lw
  rw [show ((l ++ [c]).map fun i=>97 + i).toArray.toList=(l ++ [c]).map fun i=>97 + i from rfl,List.length_map,List.length_append,List.length_singleton,ixN_nat (Nat.lt_succ_self _)]
  simp
 rw [this];rfl
theorem abc_ix:∀ d < 26,Builtin.Str.occurrences abc ⟨#[97 + d]⟩ 0 abc.length 1=[d]:=by decide +kernel
theorem hole{α:Type} [DecidableEq α]:∀ (T:List α) (B:Nat) (f:Nat→α),T.length < B→(∀ i j,i < B→j < B→f i=f j→i=j)→∃ i,i < B∧f i ∉ T
 |[],B,f,h,_=>⟨0,by simpa using h,by simp⟩
 |a :: T,B,f,h,inj=>by
  by_cases z:∃ k,k < B∧f k=a
  ·obtain ⟨k,hk,ek⟩:=z
   have h:T.length + 1 < B:=h
   obtain ⟨i,hi,ni⟩:=hole T (B - 1) (fun i=>if i < k then f i else f (i + 1)) (by omega) (fun i j hi hj e=>by
    have e:(if i < k then f i else f (i + 1))=if j < k then f j else f (j + 1):=e
    by_cases a1:i < k <;> by_cases a2:j < k
    ·rw [if_pos a1,if_pos a2] at e;exact inj i j (by omega) (by omega) e
    ·rw [if_pos a1,if_neg a2] at e;have:=inj i (j + 1) (by omega) (by omega) e;omega
    ·rw [if_neg a1,if_pos a2] at e;have:=inj (i + 1) j (by omega) (by omega) e;omega
    ·rw [if_neg a1,if_neg a2] at e;have:=inj (i + 1) (j + 1) (by omega) (by omega) e;omega)
   have ni:(if i < k then f i else f (i + 1)) ∉ T:=ni
   by_cases a1:i < k
   ·rw [if_pos a1] at ni
    refine ⟨i,by omega,fun q=>?_⟩
    rcases List.mem_cons.mp q with q | q
    ·have:=inj i k (by omega) hk (q.trans ek.symm);omega
    ·exact ni q
   ·rw [if_neg a1] at ni
    refine ⟨i + 1,by omega,fun q=>?_⟩
    rcases List.mem_cons.mp q with q | q
    ·have:=inj (i + 1) k (by omega) hk (q.trans ek.symm);omega
    ·exact ni q
  ·have h:T.length + 1 < B:=h
   obtain ⟨i,hi,ni⟩:=hole T B f (by omega) inj
   refine ⟨i,hi,fun q=>?_⟩
   rcases List.mem_cons.mp q with q | q
   ·exact z ⟨i,hi,q⟩
   ·exact ni q
theorem while_g{t:DT}{b:DS}{E:DEnds}(P:Nat→Sl→Hh→Prop){m:Nat}{δ:Sl}{h:Hh}(h0:P m δ h)(step:∀ m δ h (N:Sl→Hh→Prop),P m δ h→(∀ m' δ' h',m' < m→P m' δ' h'→N δ' h')→t δ h fun c h1=>if c=true then b { E with nx:=N,ct:=N,bk:=E.nx } δ h1 else E.nx δ h1):dWhile t b E δ h:=by
 refine ⟨m + 1,?_⟩
 have key:∀ n m δ h,m < n→P m δ h→whN t b E n δ h:=by
  intro n
  induction n with
  |zero=>intro m δ h hm;exact absurd hm (Nat.not_lt_zero _)
  |succ n ih =>
   intro m δ h hm hp
   exact step m δ h _ hp fun m' δ' h' lt hp'=>ih m' δ' h' (by omega) hp'
 exact key _ m δ h (Nat.lt_succ_self m) h0
end CM
namespace CM
open PySem L2 DL
theorem lw_sl(l:List Nat)(c:Nat):slS (lw (l ++ [c])) none (some ((l.length:Nat):Int))=lw l:=by
 have hx:(lw (l ++ [c])).length=l.length + 1:=by rw [lw_len];simp
 have h0:Builtin.Str.strSliceIndices none (some ((l.length:Nat):Int)) 1 (lw (l ++ [c])).length=Builtin.Str.strSliceIndices (some ((0:Nat):Int)) (some ((l.length:Nat):Int)) 1 (lw (l ++ [c])).length:=by
  unfold Builtin.Str.strSliceIndices
  simp
  rw [show max (0:Int) (min 0 ((lw (l ++ [c])).length:Int))=0 by omega]
 have h1:=PySem.StrLaws.strSliceIndices_plain (a:=0) (b:=l.length) (len:=(lw (l ++ [c])).length) (Nat.zero_le _) (by omega)
 have h2:=PySem.StrLaws.sliced_plain (lw (l ++ [c])) (a:=0) (b:=l.length) (Nat.zero_le _) (by omega)
 unfold slS
 rw [h0,h2,h1,hx]
 rw [if_neg (by simp)]
 unfold lw
 simp
theorem lw_ok{l:List Nat}(h:∀ i ∈ l,i < 26):PyData.strOk (lw l)=true:=by
 unfold PyData.strOk lw
 rw [Array.all_eq_true_iff_forall_mem]
 intro x hx
 have hx:x ∈ l.map fun i=>97 + i:=by simpa using hx
 obtain ⟨i,hi,rfl⟩:=List.mem_map.mp hx
 have:=h i hi
 exact decide_eq_true (by omega)
end CM
namespace K64
open PySem L2 DL CM
def vvA : String := "dAsg dName dVar dC dOp dUn dTst dTr dAnd dOr dNot dAndV dOrV dNotV dIf dIfS dRet dRetN dDrop dNext dNever dCB dCal dCons dNil dTup dV dTk dListOf dBits dIsinst dChain dPart dNoPart dSl dGNil dGCons dUnp dAug dAugS dSubL dAppend dExtend dPop dClear dFor dISeq dIRange dIEnum dIEnum1 dComp dNoIf dCatN dRepN dSlL dBreak dCont pI pI0 pB0 pNeg pIs pIx pEq pLtI pLen pTuple pInt pMin pMax pAbs pPlus pAdd pMulI pIn dGet dStrs dIStr pLeS pInS pIntS dSlS dIndexS dNinK dIRev dIZip dIndexL dGetD2 dListRng1 pCatT dPopAt pCatS reduceIte"
def vvB : String := "setD compSl isN_non isN_bl isN_int isN_str isN_tup isN_lst isN_ref eqS List.map_cons List.map_nil List.cons_append List.nil_append List.length_cons List.length_nil List.replicate List.getElem?_cons_zero List.getElem?_cons_succ List.set_cons_zero List.set_cons_succ Option.getD_some Option.getD_none List.getElem?_nil Bool.false_eq_true Bool.not_true Bool.not_false if_true if_false ite_true ite_false eq_self_iff_true decide_true decide_false Nat.reduceSub Nat.reduceAdd Nat.sub_zero Nat.sub_self Nat.zero_add Option.map_some Option.map_none Option.bind_some Option.bind_none lsOf_lst seqOf_lst seqSrc_lst lenD_lst ixD_lst trD_lst lsOf_scr seqOf_scr seqSrc_scr lenD_scr ixD_scr trD_scr lsP_lst lsP_tup lsP_int lsP_str seqOf_tup seqSrc_tup lenD_tup ixD_tup trD_tup trD_non trD_bl trD_int kindD_non kindD_bl kindD_int kindD_str kindD_tup kindD_lst isK_NoneType_bool isK_NoneType_int isK_NoneType_str isK_NoneType_tuple isK_NoneType_list isK_NoneType_dict isK_bool_bool isK_bool_int isK_bool_str isK_bool_tuple isK_bool_list isK_bool_dict isK_int_bool isK_int_int isK_int_str isK_int_tuple isK_int_list isK_int_dict isK_str_bool isK_str_int isK_str_str isK_str_tuple isK_str_list isK_str_dict isK_tuple_bool isK_tuple_int isK_tuple_str isK_tuple_tuple isK_tuple_list isK_tuple_dict isK_list_bool isK_list_int isK_list_str isK_list_tuple isK_list_list isK_list_dict isK_dict_bool isK_dict_int isK_dict_str isK_dict_tuple isK_dict_list isK_dict_dict ixN_10 ixN_0 at1_0 at2_0 at2_1 at3_0 at3_1 at3_2 at4_0 at4_1 at4_2 at4_3 at5_0 at5_1 at5_2 at5_3 at5_4 at6_0 at6_1 at6_2 at6_3 at6_4 at6_5 at7_0 at7_1 at7_2 at7_3 at7_4 at7_5 at7_6 at8_0 at8_1 at8_2 at8_3 at8_4 at8_5 at8_6 at8_7 sk_step sq_step_step sq_step_call sq_step_in sq_step_over sq_step_begin sq_step_start sq_step_short sq_step_along sq_step_within sq_step_at sq_step_out sk_call sq_call_step sq_call_call sq_call_in sq_call_over sq_call_begin sq_call_start sq_call_short sq_call_along sq_call_within sq_call_at sq_call_out sk_in sq_in_step sq_in_call sq_in_in sq_in_over sq_in_begin sq_in_start sq_in_short sq_in_along sq_in_within sq_in_at sq_in_out sk_over sq_over_step sq_over_call sq_over_in sq_over_over sq_over_begin sq_over_start sq_over_short sq_over_along sq_over_within sq_over_at sq_over_out sk_begin sq_begin_step sq_begin_call sq_begin_in sq_begin_over sq_begin_begin sq_begin_start sq_begin_short sq_begin_along sq_begin_within sq_begin_at sq_begin_out sk_start sq_start_step sq_start_call sq_start_in sq_start_over sq_start_begin sq_start_start sq_start_short sq_start_along sq_start_within sq_start_at sq_start_out sk_short sq_short_step sq_short_call sq_short_in sq_short_over sq_short_begin sq_short_start sq_short_short sq_short_along sq_short_within sq_short_at sq_short_out sk_along sq_along_step sq_along_call sq_along_in sq_along_over sq_along_begin sq_along_start sq_along_short sq_along_along sq_along_within sq_along_at sq_along_out sk_within sq_within_step sq_within_call sq_within_in sq_within_over sq_within_begin sq_within_start sq_within_short sq_within_along sq_within_within sq_within_at sq_within_out sk_at sq_at_step sq_at_call sq_at_in sq_at_over sq_at_begin sq_at_start sq_at_short sq_at_along sq_at_within sq_at_at sq_at_out sk_out sq_out_step sq_out_call sq_out_in sq_out_over sq_out_begin sq_out_start sq_out_short sq_out_along sq_out_within sq_out_at sq_out_out Bool.and_self Bool.and_true K64w.sk_number_ K64w.sq_number_if_ K64w.sq_number_to_ K64w.sq_number_return_ K64w.sq_number_dye_ K64w.sq_number_call_ K64w.sq_number_copy_ K64w.sq_number_does_ K64w.sk_copy_ K64w.sq_copy_if_ K64w.sq_copy_to_ K64w.sq_copy_return_ K64w.sq_copy_dye_ K64w.sq_copy_call_ K64w.sq_copy_copy_ K64w.sq_copy_does_ K64w.sk_does_ K64w.sq_does_if_ K64w.sq_does_to_ K64w.sq_does_return_ K64w.sq_does_dye_ K64w.sq_does_call_ K64w.sq_does_copy_ K64w.sq_does_does_ K64w.sk_dye_ K64w.sq_dye_if_ K64w.sq_dye_to_ K64w.sq_dye_return_ K64w.sq_dye_dye_ K64w.sq_dye_call_ K64w.sq_dye_copy_ K64w.sq_dye_does_ K64w.sk_wash_ K64w.sq_wash_if_ K64w.sq_wash_to_ K64w.sq_wash_return_ K64w.sq_wash_dye_ K64w.sq_wash_call_ K64w.sq_wash_copy_ K64w.sq_wash_does_ K64w.sk_if_ K64w.sq_if_if_ K64w.sq_if_to_ K64w.sq_if_return_ K64w.sq_if_dye_ K64w.sq_if_call_ K64w.sq_if_copy_ K64w.sq_if_does_ K64w.sk_to_ K64w.sq_to_if_ K64w.sq_to_to_ K64w.sq_to_return_ K64w.sq_to_dye_ K64w.sq_to_call_ K64w.sq_to_copy_ K64w.sq_to_does_ K64w.sk_return_ K64w.sq_return_if_ K64w.sq_return_to_ K64w.sq_return_return_ K64w.sq_return_dye_ K64w.sq_return_call_ K64w.sq_return_copy_ K64w.sq_return_does_ K64w.sq_call_if_ K64w.sq_call_to_ K64w.sq_call_return_ K64w.sq_call_dye_ K64w.sq_call_copy_ K64w.sq_call_does_"
local macro_rules | `(tactic| simp only [VV]) => do
  let as := ((vvA.splitOn " ")).toArray.map fun s => Lean.mkIdent s.toName
  let bs := ((vvB.splitOn " ")).toArray.map fun s => Lean.mkIdent s.toName
  `(tactic| simp only [$[↓$as:ident],*, $[$bs:ident],*])
local macro_rules | `(tactic| simp only [$xs,*, VV]) => do
  let as := ((vvA.splitOn " ")).toArray.map fun s => Lean.mkIdent s.toName
  let bs := ((vvB.splitOn " ")).toArray.map fun s => Lean.mkIdent s.toName
  `(tactic| simp only [$xs,*, $[↓$as:ident],*, $[$bs:ident],*])
local macro_rules | `(tactic| simp only [VV0]) => do
  let as := ((vvA.splitOn " ").filter (fun s => !(["eqS", "pEq"] : List String).contains s)).toArray.map fun s => Lean.mkIdent s.toName
  let bs := ((vvB.splitOn " ").filter (fun s => !(["eqS", "pEq"] : List String).contains s)).toArray.map fun s => Lean.mkIdent s.toName
  `(tactic| simp only [$[↓$as:ident],*, $[$bs:ident],*])
local macro_rules | `(tactic| simp only [$xs,*, VV0]) => do
  let as := ((vvA.splitOn " ").filter (fun s => !(["eqS", "pEq"] : List String).contains s)).toArray.map fun s => Lean.mkIdent s.toName
  let bs := ((vvB.splitOn " ").filter (fun s => !(["eqS", "pEq"] : List String).contains s)).toArray.map fun s => Lean.mkIdent s.toName
  `(tactic| simp only [$xs,*, $[↓$as:ident],*, $[$bs:ident],*])
noncomputable def top(i:Nat):Stmt:=PySem.Challenge.pw_callmatch_k64_charts_of_programs.main.body.getD i (.Pass ⟨0,0,0,0⟩)
noncomputable abbrev s_q34:Stmt:=top 5
noncomputable abbrev s_q30:Stmt:=top 6
noncomputable abbrev s_q28:Stmt:=top 7
noncomputable abbrev s_q29:Stmt:=top 10
noncomputable abbrev s_q32:Stmt:=top 12
noncomputable abbrev s_q25:Stmt:=top 21
noncomputable abbrev s_q36:Stmt:=top 25
noncomputable abbrev s_q4:Stmt:=top 27
noncomputable abbrev s_q19:Stmt:=top 29
noncomputable abbrev s_q37:Stmt:=top 15
noncomputable abbrev s_q22:Stmt:=top 24
noncomputable abbrev s_q35:Stmt:=top 13
noncomputable abbrev s_q21:Stmt:=top 14
noncomputable abbrev s_q27:Stmt:=top 23
noncomputable abbrev s_q33:Stmt:=top 11
noncomputable abbrev s_q24:Stmt:=top 22
noncomputable abbrev s_q26:Stmt:=top 20
noncomputable abbrev s_q13:Stmt:=top 35
noncomputable abbrev s_q3:Stmt:=top 38
noncomputable abbrev s_q10:Stmt:=top 39
noncomputable abbrev s_q1:Stmt:=top 40
noncomputable abbrev s_q15:Stmt:=top 41
noncomputable abbrev s_q8:Stmt:=top 43
noncomputable abbrev s_q5:Stmt:=top 28
noncomputable abbrev s_q23:Stmt:=top 9
noncomputable abbrev s_q2:Stmt:=top 33
noncomputable abbrev s_q17:Stmt:=top 36
noncomputable abbrev s_q12:Stmt:=top 42
noncomputable abbrev s_q20:Stmt:=top 47
noncomputable abbrev s_q6:Stmt:=top 30
noncomputable abbrev s_q7:Stmt:=top 34
noncomputable abbrev s_q11:Stmt:=top 44
noncomputable abbrev s_q0:Stmt:=top 45
noncomputable abbrev s_q16:Stmt:=top 37
noncomputable abbrev s_q9:Stmt:=top 46
noncomputable abbrev s_q18:Stmt:=top 31
noncomputable abbrev s_q14:Stmt:=top 32
noncomputable abbrev s_q31:Stmt:=top 48
theorem sc_q34:FnScope ["n"] ["n"] (defScope s_q34):=⟨rfl,rfl,rfl,by decide +kernel,rfl,by decide +kernel,by decide +kernel⟩
theorem sc_q30:FnScope ["n","pairs","masks","d","e"] ["n","pairs"] (defScope s_q30):=⟨rfl,rfl,rfl,by decide +kernel,rfl,by decide +kernel,by decide +kernel⟩
theorem sc_q28:FnScope ["one","other"] ["one","other"] (defScope s_q28):=⟨rfl,rfl,rfl,by decide +kernel,rfl,by decide +kernel,by decide +kernel⟩
theorem sc_q29:FnScope ["function"] ["function"] (defScope s_q29):=⟨rfl,rfl,rfl,by decide +kernel,rfl,by decide +kernel,by decide +kernel⟩
theorem sc_q32:FnScope ["p","row","exit_place"] ["p","row","exit_place"] (defScope s_q32):=⟨rfl,rfl,rfl,by decide +kernel,rfl,by decide +kernel,by decide +kernel⟩
theorem sc_q25:FnScope ["chart","f","function"] ["chart"] (defScope s_q25):=⟨rfl,rfl,rfl,by decide +kernel,rfl,by decide +kernel,by decide +kernel⟩
theorem sc_q36:FnScope ["table","n","to"] ["table","n","to"] (defScope s_q36):=⟨rfl,rfl,rfl,by decide +kernel,rfl,by decide +kernel,by decide +kernel⟩
theorem sc_q4:FnScope ["_law_script","_law_k"] ["_law_script","_law_k"] (defScope s_q4):=⟨rfl,rfl,rfl,by decide +kernel,rfl,by decide +kernel,by decide +kernel⟩
theorem sc_q19:FnScope ["_law_cell","_law_many","_law_found","_law_number","_law_k"] ["_law_cell","_law_many"] (defScope s_q19):=⟨rfl,rfl,rfl,by decide +kernel,rfl,by decide +kernel,by decide +kernel⟩
theorem sc_q37:FnScope ["n","facts"] ["n","facts"] (defScope s_q37):=⟨rfl,rfl,rfl,by decide +kernel,rfl,by decide +kernel,by decide +kernel⟩
theorem sc_q22:FnScope ["chart","facts","edge","inner_facts"] ["chart","facts","edge"] (defScope s_q22):=⟨rfl,rfl,rfl,by decide +kernel,rfl,by decide +kernel,by decide +kernel⟩
theorem sc_q35:FnScope ["n","row","sort","dyed","drawn_from"] ["n","row"] (defScope s_q35):=⟨rfl,rfl,rfl,by decide +kernel,rfl,by decide +kernel,by decide +kernel⟩
theorem sc_q21:FnScope ["program","f","p","row","n","g","inner_facts","dyed","into","back"] ["program","f","p","row"] (defScope s_q21):=⟨rfl,rfl,rfl,by decide +kernel,rfl,by decide +kernel,by decide +kernel⟩
theorem sc_q27:FnScope ["chart","function","edge","places","facts"] ["chart","function","edge"] (defScope s_q27):=⟨rfl,rfl,rfl,by decide +kernel,rfl,by decide +kernel,by decide +kernel⟩
theorem sc_q33:FnScope ["program","f","p","row","table"] ["program","f","p","row"] (defScope s_q33):=⟨rfl,rfl,rfl,by decide +kernel,rfl,by decide +kernel,by decide +kernel⟩
theorem sc_q24:FnScope ["chart","ahead","f","function","k","edge"] ["chart"] (defScope s_q24):=⟨rfl,rfl,rfl,by decide +kernel,rfl,by decide +kernel,by decide +kernel⟩
theorem sc_q26:FnScope ["chart"] ["chart"] (defScope s_q26):=⟨rfl,rfl,rfl,by decide +kernel,rfl,by decide +kernel,by decide +kernel⟩
theorem sc_q13:FnScope ["_law_row"] ["_law_row"] (defScope s_q13):=⟨rfl,rfl,rfl,by decide +kernel,rfl,by decide +kernel,by decide +kernel⟩
theorem sc_q3:FnScope ["_law_row","_law_one","_law_other","_law_many","_law_fact"] ["_law_row","_law_one","_law_other","_law_many"] (defScope s_q3):=⟨rfl,rfl,rfl,by decide +kernel,rfl,by decide +kernel,by decide +kernel⟩
theorem sc_q10:FnScope ["_law_row","_law_one","_law_other"] ["_law_row","_law_one","_law_other"] (defScope s_q10):=⟨rfl,rfl,rfl,by decide +kernel,rfl,by decide +kernel,by decide +kernel⟩
theorem sc_q1:FnScope ["_law_row","_law_one","_law_other","_law_theirs"] ["_law_row","_law_one","_law_other","_law_theirs"] (defScope s_q1):=⟨rfl,rfl,rfl,by decide +kernel,rfl,by decide +kernel,by decide +kernel⟩
theorem sc_q15:FnScope ["_law_row","_law_one","_law_other"] ["_law_row","_law_one","_law_other"] (defScope s_q15):=⟨rfl,rfl,rfl,by decide +kernel,rfl,by decide +kernel,by decide +kernel⟩
theorem sc_q8:FnScope ["_law_row","_law_place","_law_rows"] ["_law_row","_law_place","_law_rows"] (defScope s_q8):=⟨rfl,rfl,rfl,by decide +kernel,rfl,by decide +kernel,by decide +kernel⟩
theorem sc_q5:FnScope ["_law_script","_law_first","_law_most"] ["_law_script","_law_first","_law_most"] (defScope s_q5):=⟨rfl,rfl,rfl,by decide +kernel,rfl,by decide +kernel,by decide +kernel⟩
theorem sc_q23:FnScope ["program","chart","f","function","edges","p","row"] ["program"] (defScope s_q23):=⟨rfl,rfl,rfl,by decide +kernel,rfl,by decide +kernel,by decide +kernel⟩
theorem sc_q2:FnScope ["_law_cells_here","_law_sizes","_law_bodies_here","_law_edges","_law_cell","_law_weight"] ["_law_cells_here","_law_sizes"] (defScope s_q2):=⟨rfl,rfl,rfl,by decide +kernel,rfl,by decide +kernel,by decide +kernel⟩
theorem sc_q17:FnScope ["_law_row","_law_order","_law_x"] ["_law_row","_law_order"] (defScope s_q17):=⟨rfl,rfl,rfl,by decide +kernel,rfl,by decide +kernel,by decide +kernel⟩
theorem sc_q12:FnScope ["_law_table","_law_truths","_law_mask","_law_row","_law_fact"] ["_law_table","_law_truths"] (defScope s_q12):=⟨rfl,rfl,rfl,by decide +kernel,rfl,by decide +kernel,by decide +kernel⟩
theorem sc_q20:FnScope ["_law_program_here","_law_names_here","_law_many","_law_found","_law_name","_law_given","_law_variables","_law_rows","_law_more"] ["_law_program_here","_law_names_here","_law_many"] (defScope s_q20):=⟨rfl,rfl,rfl,by decide +kernel,rfl,by decide +kernel,by decide +kernel⟩
theorem sc_q6:FnScope ["_law_cell","_law_many","_law_free","_law_found","_law_k"] ["_law_cell","_law_many","_law_free"] (defScope s_q6):=⟨rfl,rfl,rfl,by decide +kernel,rfl,by decide +kernel,by decide +kernel⟩
theorem sc_q7:FnScope ["_law_cell","_law_gives","_law_many","_law_labels_here","_law_free","_law_xs","_law_x","_law_y","_law_way","_law_g"] ["_law_cell","_law_gives","_law_many","_law_labels_here","_law_free"] (defScope s_q7):=⟨rfl,rfl,rfl,by decide +kernel,rfl,by decide +kernel,by decide +kernel⟩
theorem sc_q11:FnScope ["_law_edge","_law_row","_law_place","_law_many","_law_theirs","_law_into_here","_law_home","_law_over_here"] ["_law_edge","_law_row","_law_place","_law_many","_law_theirs"] (defScope s_q11):=⟨rfl,rfl,rfl,by decide +kernel,rfl,by decide +kernel,by decide +kernel⟩
theorem sc_q0:FnScope ["_law_edges","_law_program_here","_law_f","_law_many","_law_left","_law_place","_law_row","_law_truths","_law_end","_law_edge"] ["_law_edges","_law_program_here","_law_f"] (defScope s_q0):=⟨rfl,rfl,rfl,by decide +kernel,rfl,by decide +kernel,by decide +kernel⟩
theorem sc_q16:FnScope ["_law_script","_law_words","_law_names_here","_law_sizes","_law_free","_law_labels_here","_law_bodies_here","_law_heads","_law_gives","_law_program_here","_law_f","_law_body","_law_rows","_law_last","_law_order","_law_row","_law_label","_law_variables"] ["_law_script","_law_words","_law_names_here","_law_sizes"] (defScope s_q16):=⟨rfl,rfl,rfl,by decide +kernel,rfl,by decide +kernel,by decide +kernel⟩
theorem sc_q9:FnScope ["_law_chart","_law_program_here","_law_f","_law_function"] ["_law_chart","_law_program_here"] (defScope s_q9):=⟨rfl,rfl,rfl,by decide +kernel,rfl,by decide +kernel,by decide +kernel⟩
theorem sc_q18:FnScope ["_law_cell","_law_many","_law_free","_law_letters","_law_size","_law_at","_law_found","_law_j","_law_name","_law_k","_law_place"] ["_law_cell","_law_many","_law_free"] (defScope s_q18):=⟨rfl,rfl,rfl,by decide +kernel,rfl,by decide +kernel,by decide +kernel⟩
theorem sc_q14:FnScope ["_law_cell","_law_many","_law_free","_law_letters","_law_taken","_law_names_here","_law_name","_law_last"] ["_law_cell","_law_many","_law_free"] (defScope s_q14):=⟨rfl,rfl,rfl,by decide +kernel,rfl,by decide +kernel,by decide +kernel⟩
theorem sc_q31:FnScope ["_law_script","_law_free","_law_words","_law_names_here","_law_program_here","_law_held","_law_chart"] ["_law_script"] (defScope s_q31):=⟨rfl,rfl,rfl,by decide +kernel,rfl,by decide +kernel,by decide +kernel⟩
structure Txt(P:Program)(w:World)(K:PySem.W.Frag)(mg:Str→Option Value):Prop where
 b_all:mg "all" = none
 b_bool:mg "bool" = none
 b_enumerate:mg "enumerate" = none
 b_int:mg "int" = none
 b_isinstance:mg "isinstance" = none
 b_len:mg "len" = none
 b_list:mg "list" = none
 b_min:mg "min" = none
 b_range:mg "range" = none
 b_tuple:mg "tuple" = none
 b_zip:mg "zip" = none
 c_MOST_EDGES:∃ t,mg "MOST_EDGES" = some (.int 24 t)
 c_MOST_FACTS:∃ t,mg "MOST_FACTS" = some (.int 6 t)
 c_MOST_FUNCTIONS:∃ t,mg "MOST_FUNCTIONS" = some (.int 6 t)
 c_MOST_PLACES:∃ t,mg "MOST_PLACES" = some (.int 10 t)
section
variable {P:Program} {w:World} {K:PySem.W.Frag} {mg:Str→Option Value} {base:Heap}
noncomputable def b_q34:DS:=(dRet (dCB pTuple (dCons (dV (dComp [none] (dIRange (dCons (dVar 0) dNil)) (dName 0) dNoIf (dOp pShl (dC (.int 1)) (dVar 0)))) dNil)))
noncomputable def smT(n:Nat):List Nat:=(List.range n).map fun d=>2 ^ d
noncomputable def S_q34:DSp:=fun ds h Q=>∃ n:Nat,ds=[nD n]∧n ≤ 6∧Q (tD (smT n)) h
theorem imp_q34:∀ ds h Q,S_q34 ds h Q→runD 1 b_q34 ds h Q:=by
 rintro ds h Q ⟨n,rfl,hn,q⟩
 delta runD b_q34;simp only [List.map_cons,List.map_nil,List.cons_append,List.nil_append,List.length_cons,List.length_nil,List.replicate,Nat.reduceSub,Nat.reduceAdd,Nat.zero_add,Nat.sub_self]
 simp only [VV]
 refine ⟨⟨by first | decide | omega,by first | decide | omega⟩,by rw [rangeD_length];omega,?_⟩
 rw [rangeD_map,Int.toNat_natCast]
 refine comp1n (fun d:Nat=>nD (2 ^ d)) Src.ok_nil none (fun d hd K kk=>?_) ?_
 ·have:=List.mem_range.mp hd
  rw [Int.zero_add]
  simp only [VV]
  refine ⟨⟨by first | decide | omega,by first | decide | omega,by decide⟩,?_⟩
  rw [shl1]
  exact kk
 ·unfold smT tD at q
  rw [List.map_map] at q
  exact q
theorem ok_q34{f:Addr}{fd:FuncData}(F:Fun K "same" "same" s_q34 f fd)(T:Txt P w K mg):FnOk P w K mg base CX0 1 f fd ["n"] (spD K 1 S_q34) :=
 fn_ok (k:=0) (b:=b_q34) F sc_q34 (fun cdv A outer s H E hr=>by
  refine ss_one ?_
  refine s_ret ?_
  exact se_callTy ok_tuple rfl T.b_tuple PyProof.Rows.boot_tuple (sa_cons (se_v (sn_comp rfl (N':= ["d"]) (js:=[none]) ⟨rfl,by decide +kernel,rfl,rfl,rfl⟩ (si_range1 rfl T.b_range (sa_cons (sv 0) sa_nil)) (fun s0 H0 fp=>⟨(sg_name (i:=0) (show (["d"]:List Str).Nodup by decide +kernel) rfl (Or.inl rfl)),sf_nil,(se_op ok_shl se_int (sv 0))⟩))) sa_nil)) imp_q34
noncomputable def b_q30:DS:=(dSeq (dAsg (dTk (dRepN (dV (dCons (dC (.int 0)) dNil)) (dVar 0))) (dName 2))
  (dSeq (dFor (dISeq (dVar 1)) (dUnp 2 (dGCons (dName 3) (dGCons (dName 4) dGNil))) (dAugS (dVar 2) (dVar 3) (dOp pShl (dC (.int 1)) (dVar 4)) pBor))
  (dRet (dCB pTuple (dCons (dVar 2) dNil)))))
noncomputable def S_q30:DSp:=fun ds h Q=>∃ (n:Nat) (d:D) (ps:List (Nat×Nat)),ds=[nD n,d]∧n ≤ 6∧lsOf h d=some (ps.map pqD)∧(∀ p ∈ ps,p.1 < n∧p.2 ≤ 60)∧Q (tD (gath n ps)) h
theorem imp_q30:∀ ds h Q,S_q30 ds h Q→runD 5 b_q30 ds h (Dr h Q):=by
 rintro ds h Q ⟨n,d,ps,rfl,hn,hd,hp,q⟩
 delta runD b_q30;simp only [List.map_cons,List.map_nil,List.cons_append,List.nil_append,List.length_cons,List.length_nil,List.replicate,Nat.reduceSub,Nat.reduceAdd,Nat.zero_add,Nat.sub_self]
 (try dsimp only);refine seq_intro fun N hN=>?_
 simp only [VV]
 have fl:(List.replicate ((n:Int)).toNat [D.int 0]).flatten=(gath n []).map nD:=by
  rw [Int.toNat_natCast]
  show _=(List.replicate n 0).map nD
  rw [List.map_replicate]
  clear hp hn q hd
  induction n with
  |zero=>rfl
  |succ n ih=>rw [List.replicate_succ,List.flatten_cons,ih,List.replicate_succ];rfl
 refine ⟨⟨by first | decide | omega,by first | decide | omega,by simp;omega⟩,?_⟩
 rw [fl]
 subst hN
 (try dsimp only);refine seq_intro fun N hN=>?_
 obtain ⟨w,s1,s2⟩:=src_pre hd
 simp only [s1 _ (Pre.app _ _),VV]
 refine forL_map (fun p δ h'=>∃ x3 x4:Option D,δ=[some (nD n),some d,some (.ref h.length),x3,x4]∧h'=h ++ [.lst ((gath n p).map nD)]) ⟨none,none,rfl,rfl⟩ ?_ ?_ ?_
 ·rintro p δ h' ⟨x3,x4,rfl,rfl⟩
  exact s2 _ _ (Pre.app _ _)
 ·rintro p ⟨a,b⟩ r δ h' N1 e ⟨x3,x4,rfl,rfl⟩ hN1
  obtain ⟨ha,hb⟩:=hp (a,b) (by rw [e];simp)
  have ha:a < n:=ha
  have hb:b ≤ 60:=hb
  have gl:=gath_len n p
  have g1:((gath n p).map nD)[((a:Nat):Int).toNat]?=some (nD ((gath n p).getD a 0)):=by
   rw [Int.toNat_natCast,List.getElem?_map,List.getD_eq_getElem?_getD,List.getElem?_eq_getElem (by first | decide | omega)];rfl
  have g2:ixN (gath n p).length ((a:Nat):Int)=some a:=ixN_nat (by first | decide | omega)
  simp only [pqD,get_new,g1,VV]
  refine ⟨trivial,by first | decide | omega,⟨by first | decide | omega,by first | decide | omega,by decide⟩,?_⟩
  rw [shl1,bor_nat]
  simp only [get_new,List.length_map,g2,set_new,VV]
  refine hN1 _ _ ⟨_,_,rfl,?_⟩
  rw [gath_snoc]
  unfold put
  rw [List.map_set]
 ·rintro δ h' ⟨x3,x4,rfl,rfl⟩
  subst hN
  simp only [seq_ls (ls_new h _),VV]
  exact Dr.drop (nrD_tD _) q
theorem ok_q30{f:Addr}{fd:FuncData}(F:Fun K "gathered" "gathered" s_q30 f fd)(T:Txt P w K mg):FnOk P w K mg base CX0 1 f fd ["n","pairs"] (spD K 2 S_q30) :=
 fn_okD (k:=0) (b:=b_q30) F sc_q30 (fun cdv A outer s H E hr=>by
  refine ss_cons ?_ ?_
  ·refine s_set (i:=2) ?_ ?_ ?_ ?_
   ·exact sc_q30.nd
   ·exact rfl
   ·exact Or.inl rfl
   exact se_t (sn_rep (se_v (sn_lst (sa_cons se_int sa_nil))) (sv 0))
  refine ss_cons ?_ ?_
  ·refine s_for ?_ ?_ ?_ ?_ ?_
   ·exact PassesOwn.never
   ·exact rfl
   ·exact si_seq (sv 1)
   ·exact sg_tup rfl (sgs_cons (sg_name (i:=3) sc_q30.nd rfl (Or.inl rfl)) (sgs_cons (sg_name (i:=4) sc_q30.nd rfl (Or.inl rfl)) sgs_nil))
   refine ss_one ?_
   exact s_augS (sv 2) (sv 3) (se_op ok_shl se_int (sv 4)) iok_or
  refine ss_one ?_
  refine s_ret ?_
  exact se_callTy ok_tuple rfl T.b_tuple PyProof.Rows.boot_tuple (sa_cons (sv 2) sa_nil)) imp_q30
noncomputable def b_q28:DS:=(dRet (dCB pTuple (dCons (dV (dComp [none,none] (dIZip (dCons (dVar 0) (dCons (dVar 1) dNil))) (dUnp 2 (dGCons (dName 0) (dGCons (dName 1) dGNil))) dNoIf (dOp pBor (dVar 0) (dVar 1)))) dNil)))
noncomputable def eiT(s t:List Nat):List Nat:=(s.zip t).map fun p=>p.1 ||| p.2
noncomputable def S_q28:DSp:=fun ds h Q=>∃ s t:List Nat,ds=[tD s,tD t]∧s.length=t.length∧s.length ≤ 6∧Q (tD (eiT s t)) h
theorem imp_q28:∀ ds h Q,S_q28 ds h Q→runD 2 b_q28 ds h Q:=by
 rintro ds h Q ⟨s,t,rfl,hl,hn,q⟩
 delta runD b_q28;simp only [List.map_cons,List.map_nil,List.cons_append,List.nil_append,List.length_cons,List.length_nil,List.replicate,Nat.reduceSub,Nat.reduceAdd,Nat.zero_add,Nat.sub_self]
 simp only [VV]
 have ez:zipD (s.map nD) (t.map nD)=(s.zip t).map pqD:=by
  unfold zipD
  rw [List.zip_map,List.map_map];rfl
 refine ⟨_,_,⟨t.map nD,[]⟩,rfl,rfl,by simp [hl],?_⟩
 rw [ez]
 refine ⟨by simp;omega,?_⟩
 refine compL_map (fun p a δ h'=>h'=h∧a=p.map (fun x:Nat×Nat=>nD (x.1 ||| x.2))∧∃ x1 x2,δ=[x1,x2]) ⟨rfl,rfl,none,none,rfl⟩ (fun _ _ _ _ _=>Src.ok_nil) ?_ ?_
 ·rintro p ⟨a,b⟩ r acc δ h' N1 e ⟨rfl,rfl,x1,x2,rfl⟩ hN1
  simp only [pqD,bor_nat,VV]
  exact ⟨trivial,hN1 _ _ _ ⟨rfl,by rw [List.map_append];rfl,_,_,rfl⟩⟩
 ·rintro a δ h' ⟨rfl,rfl,_⟩
  unfold eiT tD at q
  rw [List.map_map] at q
  exact q
theorem ok_q28{f:Addr}{fd:FuncData}(F:Fun K "either" "either" s_q28 f fd)(T:Txt P w K mg):FnOk P w K mg base CX0 1 f fd ["one","other"] (spD K 2 S_q28) :=
 fn_ok (k:=0) (b:=b_q28) F sc_q28 (fun cdv A outer s H E hr=>by
  refine ss_one ?_
  refine s_ret ?_
  exact se_callTy ok_tuple rfl T.b_tuple PyProof.Rows.boot_tuple (sa_cons (se_v (sn_comp rfl (N':= ["mask","more"]) (js:=[none,none]) ⟨rfl,by decide +kernel,rfl,rfl,rfl⟩ (si_zip rfl T.b_zip (sa_cons (sv 0) (sa_cons (sv 1) sa_nil))) (fun s0 H0 fp=>⟨(sg_tup rfl (sgs_cons (sg_name (i:=0) (show (["mask","more"]:List Str).Nodup by decide +kernel) rfl (Or.inl rfl)) (sgs_cons (sg_name (i:=1) (show (["mask","more"]:List Str).Nodup by decide +kernel) rfl (Or.inl rfl)) sgs_nil))),sf_nil,(se_op ok_bor (sv 0) (sv 1))⟩))) sa_nil)) imp_q28
noncomputable def b_q29:DS:=(dRet (dOp pPlus (dCB pLen (dCons (dOp pIx (dVar 0) (dC (.int 2))) dNil)) (dC (.int 2))))
inductive Rw where
 |num (x:Nat) (k:Int)
 |copy (x y:Nat)
 |does (x:Nat) (o:Str) (y z:Nat)
 |dye (x:Nat)
 |wash (x:Nat)
 |ifq (x q:Nat)
 |to (q:Nat)
 |ret (x:Nat)
 |call (x g:Nat) (ys:List Nat)
noncomputable def roD:Rw→D
 |.num x k=>.tup [.str "number",nD x,.int k]
 |.copy x y=>.tup [.str "copy",nD x,nD y]
 |.does x o y z=>.tup [.str "does",nD x,.str o,nD y,nD z]
 |.dye x=>.tup [.str "dye",nD x]
 |.wash x=>.tup [.str "wash",nD x]
 |.ifq x q=>.tup [.str "if",nD x,nD q]
 |.to q=>.tup [.str "to",nD q]
 |.ret x=>.tup [.str "return",nD x]
 |.call x g ys=>.tup [.str "call",nD x,nD g,.tup (ys.map nD)]
structure Fu where
 name:Str
 given:Nat
 vars:List Str
 rows:List Rw
noncomputable def fuD(F:Fu):D:=.tup [.str F.name,nD F.given,.tup (F.vars.map .str),.tup (F.rows.map roD)]
noncomputable def S_q29:DSp:=fun ds h Q=>∃ F:Fu,ds=[fuD F]∧Q (nD (F.vars.length + 2)) h
theorem imp_q29:∀ ds h Q,S_q29 ds h Q→runD 1 b_q29 ds h Q:=by
 rintro ds h Q ⟨F,rfl,q⟩
 delta runD b_q29;simp only [List.map_cons,List.map_nil,List.cons_append,List.nil_append,List.length_cons,List.length_nil,List.replicate,Nat.reduceSub,Nat.reduceAdd,Nat.zero_add,Nat.sub_self]
 simp only [fuD,List.length_map,VV]
 exact q
theorem ok_q29{f:Addr}{fd:FuncData}(F:Fun K "facts_of" "facts_of" s_q29 f fd)(T:Txt P w K mg):FnOk P w K mg base CX0 1 f fd ["function"] (spD K 1 S_q29) :=
 fn_ok (k:=0) (b:=b_q29) F sc_q29 (fun cdv A outer s H E hr=>by
  refine ss_one ?_
  refine s_ret ?_
  exact se_op ok_plus (se_callB ok_len rfl T.b_len PySem.boot_len (sa_cons (se_ix ok_ix (sv 0) se_int (fun _ _=>rfl)) sa_nil)) se_int) imp_q29
noncomputable def b_q32:DS:=(dSeq (dIfS (dTst (dOp (pEq false) (dOp pIx (dVar 1) (dC (.int 0))) (dC (.str "if")))) (dRet (dV (dCons (dOp pPlus (dVar 0) (dC (.int 1))) (dCons (dOp pIx (dVar 1) (dC (.int 2))) dNil)))) dNext)
  (dSeq (dIfS (dTst (dOp (pEq false) (dOp pIx (dVar 1) (dC (.int 0))) (dC (.str "to")))) (dRet (dV (dCons (dOp pIx (dVar 1) (dC (.int 1))) dNil))) dNext)
  (dRet (dIf (dTst (dOp (pEq false) (dOp pIx (dVar 1) (dC (.int 0))) (dC (.str "return")))) (dV (dCons (dVar 2) dNil)) (dV (dCons (dOp pPlus (dVar 0) (dC (.int 1))) dNil))))))
noncomputable def behind(p:Nat)(r:Rw)(x:Nat):List Nat:=match r with
 |.ifq _ q=>[p + 1,q]
 |.to q=>[q]
 |.ret _=>[x]
 |_=>[p + 1]
noncomputable def S_q32:DSp:=fun ds h Q=>∃ (p:Nat) (r:Rw) (x:Nat),ds=[nD p,roD r,nD x]∧Q (.lst ((behind p r x).map nD)) h
theorem imp_q32:∀ ds h Q,S_q32 ds h Q→runD 3 b_q32 ds h Q:=by
 rintro ds h Q ⟨p,r,x,rfl,q⟩
 delta runD b_q32;simp only [List.map_cons,List.map_nil,List.cons_append,List.nil_append,List.length_cons,List.length_nil,List.replicate,Nat.reduceSub,Nat.reduceAdd,Nat.zero_add,Nat.sub_self]
 cases r with
 |ifq y z =>
  (try dsimp only);refine seq_intro fun N hN=>?_
  simp only [roD,VV]
  exact q
 |to y =>
  (try dsimp only);refine seq_intro fun N hN=>?_
  simp only [roD,VV]
  subst hN
  (try dsimp only);refine seq_intro fun N hN=>?_
  simp only [roD,VV]
  exact q
 |ret y =>
  (try dsimp only);refine seq_intro fun N hN=>?_
  simp only [roD,VV]
  subst hN
  (try dsimp only);refine seq_intro fun N hN=>?_
  simp only [roD,VV]
  subst hN
  simp only [roD,VV]
  exact q
 |_ =>
  (try dsimp only);refine seq_intro fun N hN=>?_
  simp only [roD,VV]
  subst hN
  (try dsimp only);refine seq_intro fun N hN=>?_
  simp only [roD,VV]
  subst hN
  simp only [roD,VV]
  exact q
theorem ok_q32{f:Addr}{fd:FuncData}(F:Fun K "places_behind" "places_behind" s_q32 f fd)(T:Txt P w K mg):FnOk P w K mg base CX0 1 f fd ["p","row","exit_place"] (spD K 3 S_q32) :=
 fn_ok (k:=0) (b:=b_q32) F sc_q32 (fun cdv A outer s H E hr=>by
  refine ss_cons ?_ ?_
  ·refine s_if ?_ ?_ ?_
   ·exact st_cmp (ok_eq hr.units) (se_ix ok_ix (sv 1) se_int (fun _ _=>rfl)) se_str (nomark _)
   ·refine ss_one ?_
    refine s_ret ?_
    refine se_v ?_
    refine sn_lst (n:=2) ?_
    refine sa_cons ?_ ?_
    ·exact se_op ok_plus (sv 0) se_int
    refine sa_cons ?_ ?_
    ·exact se_ix ok_ix (sv 1) se_int (fun _ _=>rfl)
    exact sa_nil
   exact ss_nil
  refine ss_cons ?_ ?_
  ·refine s_if ?_ ?_ ?_
   ·exact st_cmp (ok_eq hr.units) (se_ix ok_ix (sv 1) se_int (fun _ _=>rfl)) se_str (nomark _)
   ·refine ss_one ?_
    refine s_ret ?_
    refine se_v ?_
    refine sn_lst (n:=1) ?_
    refine sa_cons ?_ ?_
    ·exact se_ix ok_ix (sv 1) se_int (fun _ _=>rfl)
    exact sa_nil
   exact ss_nil
  refine ss_one ?_
  refine s_ret ?_
  exact se_if (st_cmp (ok_eq hr.units) (se_ix ok_ix (sv 1) se_int (fun _ _=>rfl)) se_str (nomark _)) (se_v (sn_lst (sa_cons (sv 2) sa_nil))) (se_v (sn_lst (sa_cons (se_op ok_plus (sv 0) se_int) sa_nil)))) imp_q32
noncomputable def b_q25:DS:=(dSeq (dIfS (dNot (dTst (dChain pLe pLe (dC (.int 1)) (dCB pLen (dCons (dVar 0) dNil)) (dC (.int 6))))) dNever dNext)
  (dFor (dIEnum (dCons (dVar 0) dNil)) (dUnp 2 (dGCons (dName 1) (dGCons (dName 2) dGNil))) (dIfS (dNot (dAnd (dTst (dChain pLe pLe (dC (.int 1)) (dOp pIx (dVar 2) (dC (.int 0))) (dC (.int 10)))) (dTst (dChain pLe pLe (dC (.int 1)) (dOp pIx (dVar 2) (dC (.int 1))) (dC (.int 6)))))) dNever dNext)))
noncomputable def S_q25:DSp:=fun ds h Q=>∃ (c:D) (C:Chart),ds=[c]∧ChD h c C∧WF C∧Q .non h
theorem imp_q25:∀ ds h Q,S_q25 ds h Q→runD 3 b_q25 ds h Q:=by
 rintro ds h Q ⟨c,C,rfl,hc,wf,q⟩
 have c1:(1:Int) ≤ (C.length:Int):=by have:=wf.one;omega
 have c2:(C.length:Int) ≤ 6:=by have:=wf.six;omega
 delta runD b_q25;simp only [List.map_cons,List.map_nil,List.cons_append,List.nil_append,List.length_cons,List.length_nil,List.replicate,Nat.reduceSub,Nat.reduceAdd,Nat.zero_add,Nat.sub_self]
 (try dsimp only);refine seq_intro fun N hN=>?_
 simp only [hc.len,c1,c2,VV]
 subst hN
 obtain ⟨ys,hr,hy,hz⟩:=hc.rows
 obtain ⟨w,s1,s2⟩:=src_pre hr
 simp only [s1 _ (Pre.refl _),VV]
 rw [enumD_map]
 refine forL_map (fun p δ h'=>h'=h∧∃ x1 x2:Option D,δ=[some c,x1,x2]) ⟨rfl,none,none,rfl⟩ ?_ ?_ ?_
 ·rintro p δ h' ⟨rfl,_⟩
  exact s2 _ _ (Pre.refl _)
 ·rintro p ⟨⟨F,x⟩,i⟩ r δ h' N1 e ⟨rfl,x1,x2,rfl⟩ hN1
  have hm:F ∈ C:=by
   rw [← hy]
   have:((F,x),i) ∈ ys.zipIdx:=by rw [e];simp
   exact List.mem_map.mpr ⟨(F,x),List.fst_mem_of_mem_zipIdx this,rfl⟩
  obtain ⟨f,hf⟩:=List.mem_iff_getElem?.mp hm
  obtain ⟨q1,q2,q3,q4,_⟩:=wf.fn f F hf
  have d1:(1:Int) ≤ (F.places:Int):=by first | decide | omega
  have d2:(F.places:Int) ≤ 10:=by first | decide | omega
  have d3:(1:Int) ≤ (F.facts:Int):=by first | decide | omega
  have d4:(F.facts:Int) ≤ 6:=by first | decide | omega
  simp only [rwD,d1,d2,d3,d4,VV]
  exact ⟨trivial,hN1 _ _ ⟨rfl,_,_,rfl⟩⟩
 ·rintro δ h' ⟨rfl,x1,x2,rfl⟩
  exact q
theorem ok_q25{f:Addr}{fd:FuncData}(F:Fun K "check_functions" "check_functions" s_q25 f fd)(T:Txt P w K mg):FnOk P w K mg base CX0 1 f fd ["chart"] (spD K 1 S_q25) :=
 fn_ok (k:=0) (b:=b_q25) F sc_q25 (fun cdv A outer s H E hr=>by
  refine ss_cons ?_ ?_
  ·refine s_if ?_ ?_ ?_
   ·exact st_not (st_chain ok_le ok_le se_int (se_callB ok_len rfl T.b_len PySem.boot_len (sa_cons (sv 0) sa_nil)) (se_globI rfl T.c_MOST_FUNCTIONS))
   ·refine ss_one ?_
    exact s_never
   exact ss_nil
  refine ss_one ?_
  refine s_for ?_ ?_ ?_ ?_ ?_
  ·exact PassesOwn.never
  ·exact rfl
  ·exact si_enum rfl T.b_enumerate (sa_cons (sv 0) sa_nil)
  ·exact sg_tup rfl (sgs_cons (sg_name (i:=1) sc_q25.nd rfl (Or.inl rfl)) (sgs_cons (sg_name (i:=2) sc_q25.nd rfl (Or.inl rfl)) sgs_nil))
  refine ss_one ?_
  refine s_if ?_ ?_ ?_
  ·exact st_not (st_w (sw_and (st_chain ok_le ok_le se_int (se_ix ok_ix (sv 2) se_int (fun _ _=>rfl)) (se_globI rfl T.c_MOST_PLACES)) (sw_and1 (st_chain ok_le ok_le se_int (se_ix ok_ix (sv 2) se_int (fun _ _=>rfl)) (se_globI rfl T.c_MOST_FACTS)))))
  ·refine ss_one ?_
   exact s_never
  exact ss_nil) imp_q25
noncomputable def b_q36:DS:=(dRet (dAndV (dOp (pEq false) (dCB pLen (dCons (dVar 0) dNil)) (dVar 1)) (dCB pAll (dCons (dV (dComp [none,some 2] (dISeq (dVar 0)) (dName 0) dNoIf (dChain pLe pLtI (dC (.int 0)) (dVar 0) (dOp pShl (dC (.int 1)) (dVar 1))))) dNil))))
noncomputable def S_q36:DSp:=fun ds h Q=>∃ (t:List Nat) (n m:Nat),ds=[tD t,nD n,nD m]∧tOk t n m∧n ≤ 6∧m ≤ 6∧Q (.bl true) h
theorem imp_q36:∀ ds h Q,S_q36 ds h Q→runD 3 b_q36 ds h Q:=by
 rintro ds h Q ⟨t,n,m,rfl,ht,hn,hm,q⟩
 have e1:((t.length:Int) == (n:Int))=true:=by rw [ht.1];simp
 delta runD b_q36;simp only [List.map_cons,List.map_nil,List.cons_append,List.nil_append,List.length_cons,List.length_nil,List.replicate,Nat.reduceSub,Nat.reduceAdd,Nat.zero_add,Nat.sub_self]
 simp only [tD,List.length_map,e1,pAll,VV]
 refine ⟨by rw [ht.1];omega,?_⟩
 refine comp1n (fun _=>D.bl true) Src.ok_nil none (fun y hy K k=>?_) ?_
 ·have c1:(0:Int) ≤ (y:Int):=by first | decide | omega
  have c2:(y:Int) < ((2 ^ m:Nat):Int):=by have:=ht.2 y hy;omega
  simp only [c1,VV]
  refine ⟨⟨by first | decide | omega,by first | decide | omega,by decide⟩,?_⟩
  rw [shl1]
  simp only [c2,VV]
  exact k
 ·refine ⟨_,t.map fun _=>true,rfl,by rw [List.map_map];rfl,?_⟩
  rw [show ((t.map fun _=>true).all fun b=>b)=true by simp]
  exact q
theorem ok_q36{f:Addr}{fd:FuncData}(F:Fun K "table_fits" "table_fits" s_q36 f fd)(T:Txt P w K mg):FnOk P w K mg base CX0 1 f fd ["table","n","to"] (spD K 3 S_q36) :=
 fn_ok (k:=0) (b:=b_q36) F sc_q36 (fun cdv A outer s H E hr=>by
  refine ss_one ?_
  refine s_ret ?_
  exact se_and (se_cmp (ok_eq hr.units) (se_callB ok_len rfl T.b_len PySem.boot_len (sa_cons (sv 0) sa_nil)) (sv 1) (nomark _)) (se_one (se_callB (ok_all rfl) rfl T.b_all PyProof.Rows.boot_all (sa_cons (se_v (sn_comp rfl (N':= ["mask","to"]) (js:=[none,some 2]) ⟨rfl,by decide +kernel,rfl,rfl,rfl⟩ (si_seq (sv 0)) (fun s0 H0 fp=>⟨(sg_name (i:=0) (show (["mask","to"]:List Str).Nodup by decide +kernel) rfl (Or.inl rfl)),sf_nil,(se_chain ok_le ok_ltI se_int (sv 0) (se_op ok_shl se_int (sv 1)))⟩))) sa_nil)))) imp_q36
noncomputable def b_q4:DS:=(dSeq (dIfS (dTst (dOp pGe (dVar 1) (dCB pLen (dCons (dVar 0) dNil)))) (dRet (dC (.int 0))) dNext)
  (dSeq (dIfS (dTst (dChain pLtI pLtI (dUn pNeg (dC (.int 1000))) (dOp pIx (dVar 0) (dVar 1)) (dC (.int 1000)))) (dRet (dOp pMod (dOp pMulI (dOp pPow (dOp pPlus (dOp pPlus (dOp pIx (dVar 0) (dVar 1)) (dC (.int 1000))) (dOp pMulI (dC (.int 2003)) (dVar 1))) (dC (.int 2))) (dC (.int 48271))) (dC (.int 2147483647)))) dNext)
  (dRet (dOp pIx (dVar 0) (dVar 1)))))
noncomputable def S_q4:DSp:=fun ds h Q=>∃ (ns:List Int) (k:Nat),ds=[.scr (ns.map .int),.int k]∧ns.length ≤ 63∧(∀ x ∈ ns,Builtin.Int.intBits x ≤ 1048576)∧k ≤ 1000∧∀ r:Int,Q (.int r) h
theorem imp_q4:∀ ds h Q,S_q4 ds h Q→runD 2 b_q4 ds h Q:=by
 rintro ds h Q ⟨ns,k,rfl,hl,hb,hk,q⟩
 delta runD b_q4;simp only [List.map_cons,List.map_nil,List.cons_append,List.nil_append,List.length_cons,List.length_nil,List.replicate,Nat.reduceSub,Nat.reduceAdd,Nat.zero_add,Nat.sub_self]
 (try dsimp only);refine seq_intro fun N hN=>?_
 simp only [List.length_map,VV]
 refine iteB (fun c1=>q _) (fun c1=>?_)
 have kl:k < ns.length:=by have:=of_decide_eq_false c1;omega
 have ix:atI (ns.map D.int) (k:Int)=some (.int ns[k]):=by rw [atN,List.getElem?_map,List.getElem?_eq_getElem kl];rfl
 subst hN
 (try dsimp only);refine seq_intro fun N hN=>?_
 simp only [ix,VV]
 generalize ns[k]=x
 have rest:N [some (.scr (ns.map D.int)),some (.int k)] h:=by
  subst hN
  simp only [ix,VV]
  exact q _
 refine iteB (fun c2=>?_) (fun c2=>rest)
 have l1:=of_decide_eq_true c2
 refine iteB (fun c3=>?_) (fun c3=>rest)
 have l2:=of_decide_eq_true c3
 refine ⟨mulS (by decide),⟨by decide,by decide,by first | decide | omega⟩,mulS' (by decide),by decide,?_⟩
 exact q _
theorem ok_q4{f:Addr}{fd:FuncData}(F:Fun K "_law_cell_at" "_law_cell_at" s_q4 f fd)(T:Txt P w K mg):FnOk P w K mg base CX0 1 f fd ["_law_script","_law_k"] (spD K 2 S_q4) :=
 fn_ok (k:=0) (b:=b_q4) F sc_q4 (fun cdv A outer s H E hr=>by
  refine ss_cons ?_ ?_
  ·refine s_if ?_ ?_ ?_
   ·exact st_cmp ok_ge (sv 1) (se_callB ok_len rfl T.b_len PySem.boot_len (sa_cons (sv 0) sa_nil)) (nomark _)
   ·refine ss_one ?_
    refine s_ret ?_
    exact se_int
   exact ss_nil
  refine ss_cons ?_ ?_
  ·refine s_if ?_ ?_ ?_
   ·exact st_chain ok_ltI ok_ltI (se_un ok_neg se_int) (se_ix ok_ix (sv 0) (sv 1) (fun _ _=>rfl)) se_int
   ·refine ss_one ?_
    refine s_ret ?_
    exact se_op ok_mod (se_op ok_timesI (se_op ok_pow (se_op ok_plus (se_op ok_plus (se_ix ok_ix (sv 0) (sv 1) (fun _ _=>rfl)) se_int) (se_op ok_timesI se_int (sv 1))) se_int) se_int) se_int
   exact ss_nil
  refine ss_one ?_
  refine s_ret ?_
  exact se_ix ok_ix (sv 0) (sv 1) (fun _ _=>rfl)) imp_q4
noncomputable def b_q19:DS:=(dSeq (dAsg (dTk dNil) (dName 2))
  (dSeq (dAsg (dOp pMod (dVar 0) (dC (.int 2147483647))) (dName 3))
  (dSeq (dFor (dIRange (dCons (dVar 1) dNil)) (dName 4) (dSeq (dAsg (dOp pMod (dOp pPlus (dOp pPlus (dOp pMulI (dVar 3) (dC (.int 48271))) (dC (.int 12820163))) (dVar 4)) (dC (.int 2147483647))) (dName 3))
  (dDrop (dAppend (dVar 2) (dCons (dVar 3) dNil)))))
  (dRet (dVar 2)))))
noncomputable def S_q19:DSp:=fun ds h Q=>∃ (c:Int) (m:Nat),ds=[.int c,.int m]∧m ≤ 100∧∀ rs:List Int,rs.length=m→Q (.lst (rs.map D.int)) h
theorem imp_q19:∀ ds h Q,S_q19 ds h Q→runD 5 b_q19 ds h (Dr h Q):=by
 rintro ds h Q ⟨c,m,rfl,hm,q⟩
 delta runD b_q19;simp only [List.map_cons,List.map_nil,List.cons_append,List.nil_append,List.length_cons,List.length_nil,List.replicate,Nat.reduceSub,Nat.reduceAdd,Nat.zero_add,Nat.sub_self]
 (try dsimp only);refine seq_intro fun N hN=>?_
 simp only [VV]
 subst hN
 (try dsimp only);refine seq_intro fun N hN=>?_
 simp only [VV]
 refine ⟨by decide,?_⟩
 have cb:0 ≤ c % 2147483647∧c % 2147483647 < 2147483647:=by first | decide | omega
 generalize c % 2147483647=s0 at cb
 subst hN
 (try dsimp only);refine seq_intro fun N hN=>?_
 simp only [VV]
 refine ⟨⟨by first | decide | omega,by first | decide | omega⟩,?_⟩
 rw [rangeD_map,Int.toNat_natCast]
 refine forL_map (fun p δ h'=>∃ (rs:List Int) (s:Int),h'=h ++ [.lst (rs.map D.int)]∧rs.length=p.length∧(0 ≤ s∧s < 2147483647)∧∃ x4,δ=[some (.int c),some (.int m),some (.ref h.length),some (.int s),x4]) ⟨[],s0,rfl,rfl,cb,_,rfl⟩ (fun _ _ _ _=>Src.ok_nil) ?_ ?_
 ·rintro p y r δ h' N1 e ⟨rs,s,rfl,rl,sb,x4,rfl⟩ hN1
  obtain ⟨rfl,hy⟩:=range_split e
  clear hN
  simp only [VV]
  (try dsimp only);refine seq_intro fun N2 hN2=>?_
  simp only [VV]
  refine ⟨mulS (by first | decide | omega),by decide,?_⟩
  have s2:0 ≤ (s * 48271 + 12820163 + (0 + (p.length:Int))) % 2147483647∧(s * 48271 + 12820163 + (0 + (p.length:Int))) % 2147483647 < 2147483647:=by first | decide | omega
  generalize (s * 48271 + 12820163 + (0 + (p.length:Int))) % 2147483647=s' at s2
  subst hN2
  have gn:(h ++ [O.lst (rs.map D.int)])[h.length]?=some (.lst (rs.map D.int)):=get_new _ _
  simp only [gn,VV]
  refine ⟨by rw [List.length_map];omega,?_⟩
  rw [set_new]
  exact hN1 _ _ ⟨rs ++ [s'],s',by rw [List.map_append];rfl,by simp [rl],s2,_,rfl⟩
 ·rintro δ h' ⟨rs,s,rfl,rl,sb,x4,rfl⟩
  rw [List.length_range] at rl
  subst hN
  simp only [VV]
  exact Dr.dropL (g1:=[]) (g2:=[]) (nrDs_map (fun _=>rfl) rs) rfl (q rs rl)
theorem ok_q19{f:Addr}{fd:FuncData}(F:Fun K "_law_stream" "_law_stream" s_q19 f fd)(T:Txt P w K mg):FnOk P w K mg base CX0 1 f fd ["_law_cell","_law_many"] (spD K 2 S_q19) :=
 fn_okD (k:=0) (b:=b_q19) F sc_q19 (fun cdv A outer s H E hr=>by
  refine ss_cons ?_ ?_
  ·refine s_set (i:=2) ?_ ?_ ?_ ?_
   ·exact sc_q19.nd
   ·exact rfl
   ·exact Or.inl rfl
   exact se_t (sn_lst sa_nil)
  refine ss_cons ?_ ?_
  ·refine s_set (i:=3) ?_ ?_ ?_ ?_
   ·exact sc_q19.nd
   ·exact rfl
   ·exact Or.inl rfl
   exact se_op ok_mod (sv 0) se_int
  refine ss_cons ?_ ?_
  ·refine s_for ?_ ?_ ?_ ?_ ?_
   ·exact PassesOwn.never
   ·exact rfl
   ·exact si_range1 rfl T.b_range (sa_cons (sv 1) sa_nil)
   ·exact sg_name (i:=4) sc_q19.nd rfl (Or.inl rfl)
   refine ss_cons ?_ ?_
   ·refine s_set (i:=3) ?_ ?_ ?_ ?_
    ·exact sc_q19.nd
    ·exact rfl
    ·exact Or.inl rfl
    exact se_op ok_mod (se_op ok_plus (se_op ok_plus (se_op ok_timesI (sv 3) se_int) se_int) (sv 4)) se_int
   refine ss_one ?_
   refine s_expr ?_
   exact se_append (sv 2) (sa_cons (sv 3) sa_nil)
  refine ss_one ?_
  refine s_ret ?_
  exact sv 2) imp_q19
noncomputable def b_q37:DS:=(dRet (dCal S_q30 (dCons (dVar 0) (dCons (dV (dComp [none,some 1] (dIRange (dCons (dVar 0) dNil)) (dName 0) (dTst (dOp (pIn true) (dVar 0) (dVar 1))) (dTup (dCons (dVar 0) (dCons (dVar 0) dNil))))) dNil))))
theorem inF_nat(d:Nat)(fs:List Nat):inF (nD d) (fs.map nD)=fs.contains d:=by
 induction fs with
 |nil=>rfl
 |cons a r ih =>
  rw [List.contains_cons,← ih]
  unfold inF
  rw [List.map_cons,List.any_cons]
  congr 1
  by_cases c:d=a
  ·subst c;simp [eqF,nD]
  ·have:¬ (a:Int)=(d:Int):=fun z=>c (by first | decide | omega)
   have t:¬ (d:Int)=(a:Int):=fun z=>c (by first | decide | omega)
   show ((a:Int) == (d:Int))=(d == a)
   rw [beq_eq_false_iff_ne.mpr this,beq_eq_false_iff_ne.mpr c]
noncomputable def woL(n:Nat)(fs:List Nat):List (Nat×Nat):=((List.range n).filter fun d=>!fs.contains d).map fun d=>(d,d)
theorem woL_lt{n:Nat}{fs:List Nat}{p:Nat×Nat}(h:p ∈ woL n fs):p.1 < n∧p.2 < n:=by
 obtain ⟨d,hd,rfl⟩:=List.mem_map.mp h
 have:=List.mem_range.mp (List.mem_filter.mp hd).1
 exact ⟨this,this⟩
noncomputable def S_q37:DSp:=fun ds h Q=>∃ (n:Nat) (fs:List Nat),ds=[nD n,.tup (fs.map nD)]∧n ≤ 6∧Q (tD (gath n (woL n fs))) h
theorem imp_q37:∀ ds h Q,S_q37 ds h Q→runD 2 b_q37 ds h Q:=by
 rintro ds h Q ⟨n,fs,rfl,hn,q⟩
 delta runD b_q37;simp only [List.map_cons,List.map_nil,List.cons_append,List.nil_append,List.length_cons,List.length_nil,List.replicate,Nat.reduceSub,Nat.reduceAdd,Nat.zero_add,Nat.sub_self]
 simp only [VV]
 refine ⟨⟨by first | decide | omega,by first | decide | omega⟩,by rw [rangeD_length];omega,?_⟩
 rw [rangeD_map,Int.toNat_natCast]
 refine compL_map (fun p a δ h'=>h'=h∧a=(((p.filter fun d=>!fs.contains d).map fun d=>(d,d)).map pqD)∧∃ x1,δ=[x1,some (.tup (fs.map nD))]) ⟨rfl,rfl,none,rfl⟩ (fun _ _ _ _ _=>Src.ok_nil) ?_ ?_
 ·rintro p y r acc δ h' N1 e ⟨rfl,rfl,x1,rfl⟩ hN1
  rw [Int.zero_add]
  simp only [inF_nat,VV]
  refine ⟨by simp [flatD,nD],?_⟩
  cases c:fs.contains y with
  |true =>
   simp only [c,VV]
   exact hN1 _ _ _ ⟨rfl,by rw [List.filter_append,List.filter_cons_of_neg (by rw [c];decide),List.filter_nil,List.append_nil],_,rfl⟩
  |false =>
   simp only [c,VV]
   exact hN1 _ _ _ ⟨rfl,by rw [List.filter_append,List.filter_cons_of_pos (by rw [c];rfl),List.filter_nil,List.map_append,List.map_append];rfl,_,rfl⟩
 ·rintro a δ h' ⟨rfl,rfl,_⟩
  exact ⟨n,_,woL n fs,rfl,hn,rfl,fun p hp=>⟨(woL_lt hp).1,by have:=(woL_lt hp).2;omega⟩,q⟩
theorem ok_q37{f:Addr}{fd:FuncData}(F:Fun K "without" "without" s_q37 f fd)(T:Txt P w K mg)(C_q30:Cal P w K mg base 1 "gathered" ["n","pairs"] (spD K 2 S_q30)):FnOk P w K mg base CX0 2 f fd ["n","facts"] (spD K 2 S_q37) :=
 fn_ok (k:=1) (b:=b_q37) F sc_q37 (fun cdv A outer s H E hr=>by
  refine ss_one ?_
  refine s_ret ?_
  exact se_cal C_q30 (hr.mono (by decide)) rfl (sa_cons (sv 0) (sa_cons (se_v (sn_comp rfl (N':= ["d","facts"]) (js:=[none,some 1]) ⟨rfl,by decide +kernel,rfl,rfl,rfl⟩ (si_range1 rfl T.b_range (sa_cons (sv 0) sa_nil)) (fun s0 H0 fp=>⟨(sg_name (i:=0) (show (["d","facts"]:List Str).Nodup by decide +kernel) rfl (Or.inl rfl)),(sf_one (st_cmp ok_notin (sv 0) (sv 1) rfl)),(se_tup (sa_cons (sv 0) (sa_cons (sv 0) sa_nil)))⟩))) sa_nil))) imp_q37
noncomputable def b_q22:DS:=(dSeq (dIfS (dNot (dTst (dChain pLe pLtI (dC (.int 0)) (dOp pIx (dVar 2) (dC (.int 4))) (dCB pLen (dCons (dVar 0) dNil))))) (dRet (dC (.bl false))) dNext)
  (dSeq (dAsg (dOp pIx (dOp pIx (dVar 0) (dOp pIx (dVar 2) (dC (.int 4)))) (dC (.int 1))) (dName 3))
  (dRet (dAndV (dCal S_q36 (dCons (dOp pIx (dVar 2) (dC (.int 5))) (dCons (dVar 1) (dCons (dVar 3) dNil)))) (dAndV (dCal S_q36 (dCons (dOp pIx (dVar 2) (dC (.int 6))) (dCons (dVar 3) (dCons (dVar 1) dNil)))) (dCal S_q36 (dCons (dOp pIx (dVar 2) (dC (.int 7))) (dCons (dVar 1) (dCons (dVar 1) dNil)))))))))
noncomputable def S_q22:DSp:=fun ds h Q=>∃ (c:D) (C:Chart) (F:Fn) (E:Edge) (g:Nat) (i b o:List Nat),ds=[c,nD F.facts,eD E]∧ChD h c C∧WF C∧F.facts ≤ 6∧E.k = .call g i b o∧eOk C F E∧Q (.bl true) h
theorem imp_q22:∀ ds h Q,S_q22 ds h Q→runD 4 b_q22 ds h Q:=by
 rintro ds h Q ⟨c,C,F,⟨p,q',co,k⟩,g,i,b,o,rfl,hc,wf,h6,rfl,⟨_,_,_,_,G,hG,t1,t2,t3⟩,q⟩
 obtain ⟨x,e1,e2⟩:=hc.fn hG
 have g6:=(wf.fn g G hG).2.2.2.1
 have c1:(0:Int) ≤ (g:Int):=by first | decide | omega
 have c2:(g:Int) < (C.length:Int):=by have:=(List.getElem?_eq_some_iff.mp hG).1;omega
 delta runD b_q22;simp only [List.map_cons,List.map_nil,List.cons_append,List.nil_append,List.length_cons,List.length_nil,List.replicate,Nat.reduceSub,Nat.reduceAdd,Nat.zero_add,Nat.sub_self]
 (try dsimp only);refine seq_intro fun N hN=>?_
 simp only [eD,hc.len,c1,c2,VV]
 subst hN
 (try dsimp only);refine seq_intro fun N hN=>?_
 simp only [eD,e1,VV]
 subst hN
 simp only [eD,VV]
 refine ⟨i,F.facts,G.facts,rfl,t1,h6,g6,?_⟩
 simp only [VV]
 refine ⟨b,G.facts,F.facts,rfl,t2,g6,h6,?_⟩
 simp only [VV]
 exact ⟨o,F.facts,F.facts,rfl,t3,h6,h6,q⟩
theorem ok_q22{f:Addr}{fd:FuncData}(F:Fun K "call_fits" "call_fits" s_q22 f fd)(T:Txt P w K mg)(C_q36:Cal P w K mg base 1 "table_fits" ["table","n","to"] (spD K 3 S_q36)):FnOk P w K mg base CX0 2 f fd ["chart","facts","edge"] (spD K 3 S_q22) :=
 fn_ok (k:=1) (b:=b_q22) F sc_q22 (fun cdv A outer s H E hr=>by
  refine ss_cons ?_ ?_
  ·refine s_if ?_ ?_ ?_
   ·exact st_not (st_chain ok_le ok_ltI se_int (se_ix ok_ix (sv 2) se_int (fun _ _=>rfl)) (se_callB ok_len rfl T.b_len PySem.boot_len (sa_cons (sv 0) sa_nil)))
   ·refine ss_one ?_
    refine s_ret ?_
    exact se_bl
   exact ss_nil
  refine ss_cons ?_ ?_
  ·refine s_set (i:=3) ?_ ?_ ?_ ?_
   ·exact sc_q22.nd
   ·exact rfl
   ·exact Or.inl rfl
   exact se_ix ok_ix (se_ix ok_ix (sv 0) (se_ix ok_ix (sv 2) se_int (fun _ _=>rfl)) (fun _ _=>rfl)) se_int (fun _ _=>rfl)
  refine ss_one ?_
  refine s_ret ?_
  exact se_and (se_cal C_q36 (hr.mono (by decide)) rfl (sa_cons (se_ix ok_ix (sv 2) se_int (fun _ _=>rfl)) (sa_cons (sv 1) (sa_cons (sv 3) sa_nil)))) (se_and (se_cal C_q36 (hr.mono (by decide)) rfl (sa_cons (se_ix ok_ix (sv 2) se_int (fun _ _=>rfl)) (sa_cons (sv 3) (sa_cons (sv 1) sa_nil)))) (se_one (se_cal C_q36 (hr.mono (by decide)) rfl (sa_cons (se_ix ok_ix (sv 2) se_int (fun _ _=>rfl)) (sa_cons (sv 1) (sa_cons (sv 1) sa_nil))))))) imp_q22
noncomputable def b_q35:DS:=(dSeq (dAsg (dOp pIx (dVar 1) (dC (.int 0))) (dName 2))
  (dSeq (dIfS (dOr (dTst (dOp (pEq false) (dVar 2) (dC (.str "if")))) (dTst (dOp (pEq false) (dVar 2) (dC (.str "to"))))) (dRet (dCal S_q34 (dCons (dVar 0) dNil))) dNext)
  (dSeq (dAsg (dOp pPlus (dC (.int 1)) (dOp pIx (dVar 1) (dC (.int 1)))) (dName 3))
  (dSeq (dIfS (dTst (dOp (pEq false) (dVar 2) (dC (.str "dye")))) (dRet (dCal S_q28 (dCons (dCal S_q34 (dCons (dVar 0) dNil)) (dCons (dCal S_q30 (dCons (dVar 0) (dCons (dV (dCons (dTup (dCons (dC (.int 0)) (dCons (dVar 3) dNil))) dNil)) dNil))) dNil)))) dNext)
  (dSeq (dIfS (dTst (dOp (pEq false) (dVar 2) (dC (.str "return")))) (dRet (dCal S_q30 (dCons (dVar 0) (dCons (dV (dCons (dTup (dCons (dC (.int 0)) (dCons (dC (.int 0)) dNil))) (dCons (dTup (dCons (dVar 3) (dCons (dOp pSub (dVar 0) (dC (.int 1))) dNil))) dNil))) dNil)))) dNext)
  (dSeq (dAsg (dGetD2 "copy" (dSl (dVar 1) (dPart (dC (.int 2))) dNoPart) "does" (dSl (dVar 1) (dPart (dC (.int 3))) dNoPart) (dVar 2) (dTup dNil)) (dName 4))
  (dRet (dCal S_q28 (dCons (dCal S_q37 (dCons (dVar 0) (dCons (dTup (dCons (dVar 3) dNil)) dNil))) (dCons (dCal S_q30 (dCons (dVar 0) (dCons (dV (dComp [none,some 3] (dISeq (dVar 4)) (dName 0) dNoIf (dTup (dCons (dOp pPlus (dC (.int 1)) (dVar 0)) (dCons (dVar 1) dNil))))) dNil))) dNil))))))))))
noncomputable def drawsOf:Rw→List Nat
 |.copy _ y=>[y]
 |.does _ _ y z=>[y,z]
 |_=>[]
noncomputable def tgt:Rw→Nat
 |.num x _ | .copy x _ | .does x _ _ _ | .dye x | .wash x | .ifq x _ | .ret x | .call x _ _=>x
 |.to _=>0
noncomputable def stT(n:Nat)(r:Rw):List Nat:=match r with
 |.ifq _ _ | .to _=>smT n
 |.dye x=>eiT (smT n) (gath n [(0,1 + x)])
 |.ret x=>gath n [(0,0),(1 + x,n - 1)]
 |r=>eiT (gath n (woL n [1 + tgt r])) (gath n ((drawsOf r).map fun v=>(1 + v,1 + tgt r)))
noncomputable def rOk(n:Nat)(r:Rw):Prop:=1 + tgt r < n∧(∀ v ∈ drawsOf r,1 + v < n)∧∀ x g ys,r ≠ .call x g ys
theorem smT_len(n:Nat):(smT n).length=n:=by unfold smT;rw [List.length_map,List.length_range]
noncomputable def S_q35:DSp:=fun ds h Q=>∃ (n:Nat) (r:Rw),ds=[nD n,roD r]∧n ≤ 6∧rOk n r∧Q (tD (stT n r)) h
theorem imp_q35:∀ ds h Q,S_q35 ds h Q→runD 5 b_q35 ds h Q:=by
 rintro ds h Q ⟨n,r,rfl,hn,⟨h1,h2,h3⟩,q⟩
 delta runD b_q35;simp only [List.map_cons,List.map_nil,List.cons_append,List.nil_append,List.length_cons,List.length_nil,List.replicate,Nat.reduceSub,Nat.reduceAdd,Nat.zero_add,Nat.sub_self]
 cases r with
 |call x g ys=>exact (h3 x g ys rfl).elim
 |ifq x y =>
  (try dsimp only);refine seq_intro fun N hN=>?_
  simp only [roD,VV]
  subst hN
  (try dsimp only);refine seq_intro fun N hN=>?_
  simp only [roD,VV]
  exact ⟨n,rfl,hn,q⟩
 |to y =>
  (try dsimp only);refine seq_intro fun N hN=>?_
  simp only [roD,VV]
  subst hN
  (try dsimp only);refine seq_intro fun N hN=>?_
  simp only [roD,VV]
  exact ⟨n,rfl,hn,q⟩
 |dye x =>
  have h1:1 + x < n:=h1
  (try dsimp only);refine seq_intro fun N hN=>?_
  simp only [roD,VV]
  subst hN
  (try dsimp only);refine seq_intro fun N hN=>?_
  simp only [roD,VV]
  subst hN
  (try dsimp only);refine seq_intro fun N hN=>?_
  simp only [roD,VV]
  subst hN
  (try dsimp only);refine seq_intro fun N hN=>?_
  simp only [roD,VV]
  refine ⟨n,rfl,hn,?_⟩
  refine ⟨n,_,[(0,1 + x)],rfl,hn,rfl,by simp;omega,?_⟩
  exact ⟨_,_,rfl,by rw [smT_len,gath_len],by rw [smT_len];omega,q⟩
 |ret x =>
  have h1:1 + x < n:=h1
  (try dsimp only);refine seq_intro fun N hN=>?_
  simp only [roD,VV]
  subst hN
  (try dsimp only);refine seq_intro fun N hN=>?_
  simp only [roD,VV]
  subst hN
  (try dsimp only);refine seq_intro fun N hN=>?_
  simp only [roD,VV]
  subst hN
  (try dsimp only);refine seq_intro fun N hN=>?_
  simp only [roD,VV]
  subst hN
  (try dsimp only);refine seq_intro fun N hN=>?_
  simp only [roD,VV]
  refine ⟨n,_,[(0,0),(1 + x,n - 1)],rfl,hn,?_,by simp;omega,q⟩
  have e:((n:Int) - 1)=((n - 1:Nat):Int):=by first | decide | omega
  rw [e];rfl
 |copy x y =>
  have h1:1 + x < n:=h1
  (try dsimp only);refine seq_intro fun N hN=>?_
  simp only [roD,VV]
  subst hN
  (try dsimp only);refine seq_intro fun N hN=>?_
  simp only [roD,VV]
  subst hN
  (try dsimp only);refine seq_intro fun N hN=>?_
  simp only [roD,VV]
  subst hN
  (try dsimp only);refine seq_intro fun N hN=>?_
  simp only [roD,VV]
  subst hN
  (try dsimp only);refine seq_intro fun N hN=>?_
  simp only [roD,VV]
  subst hN
  (try dsimp only);refine seq_intro fun N hN=>?_
  simp only [roD,VV]
  have fin:∀ ds:List Nat,(∀ v ∈ ds,1 + v < n)→Q (tD (eiT (gath n (woL n [1 + x])) (gath n (ds.map fun v=>(1 + v,1 + x))))) h→ds.length ≤ 2→∀ a1 a2,N [some (nD n),a1,a2,some (.int (1 + (x:Nat))),some (.tup (ds.map nD))] h:=by
   intro ds hd qq hl a1 a2
   subst hN
   simp only [VV]
   refine ⟨n,[1 + x],rfl,hn,?_⟩
   refine ⟨by simp;omega,?_⟩
   refine compL_map (fun p a δ h'=>h'=h∧a=(p.map fun v=>(1 + v,1 + x)).map pqD∧∃ x1,δ=[x1,some (.int (1 + (x:Nat)))]) ⟨rfl,rfl,none,rfl⟩ (fun _ _ _ _ _=>Src.ok_nil) ?_ ?_
   ·rintro p y r acc δ h' N1 e ⟨rfl,rfl,x1,rfl⟩ hN1
    simp only [VV]
    exact hN1 _ _ _ ⟨rfl,by rw [List.map_append,List.map_append];rfl,_,rfl⟩
   ·rintro a δ h' ⟨rfl,rfl,_⟩
    refine ⟨n,_,ds.map fun v=>(1 + v,1 + x),rfl,hn,rfl,?_,?_⟩
    ·intro p hp
     obtain ⟨v,hv,rfl⟩:=List.mem_map.mp hp
     exact ⟨hd v hv,show 1 + x ≤ 60 by first | decide | omega⟩
    ·exact ⟨_,_,rfl,by rw [gath_len,gath_len],by rw [gath_len];omega,qq⟩
  refine ⟨_,rfl,by decide +kernel,?_⟩
  rw [if_pos rfl]
  exact fin [y] h2 q (by simp) _ _
 |does x o y z =>
  have h1:1 + x < n:=h1
  (try dsimp only);refine seq_intro fun N hN=>?_
  simp only [roD,VV]
  subst hN
  (try dsimp only);refine seq_intro fun N hN=>?_
  simp only [roD,VV]
  subst hN
  (try dsimp only);refine seq_intro fun N hN=>?_
  simp only [roD,VV]
  subst hN
  (try dsimp only);refine seq_intro fun N hN=>?_
  simp only [roD,VV]
  subst hN
  (try dsimp only);refine seq_intro fun N hN=>?_
  simp only [roD,VV]
  subst hN
  (try dsimp only);refine seq_intro fun N hN=>?_
  simp only [roD,VV]
  have fin:∀ ds:List Nat,(∀ v ∈ ds,1 + v < n)→Q (tD (eiT (gath n (woL n [1 + x])) (gath n (ds.map fun v=>(1 + v,1 + x))))) h→ds.length ≤ 2→∀ a1 a2,N [some (nD n),a1,a2,some (.int (1 + (x:Nat))),some (.tup (ds.map nD))] h:=by
   intro ds hd qq hl a1 a2
   subst hN
   simp only [VV]
   refine ⟨n,[1 + x],rfl,hn,?_⟩
   refine ⟨by simp;omega,?_⟩
   refine compL_map (fun p a δ h'=>h'=h∧a=(p.map fun v=>(1 + v,1 + x)).map pqD∧∃ x1,δ=[x1,some (.int (1 + (x:Nat)))]) ⟨rfl,rfl,none,rfl⟩ (fun _ _ _ _ _=>Src.ok_nil) ?_ ?_
   ·rintro p y r acc δ h' N1 e ⟨rfl,rfl,x1,rfl⟩ hN1
    simp only [VV]
    exact hN1 _ _ _ ⟨rfl,by rw [List.map_append,List.map_append];rfl,_,rfl⟩
   ·rintro a δ h' ⟨rfl,rfl,_⟩
    refine ⟨n,_,ds.map fun v=>(1 + v,1 + x),rfl,hn,rfl,?_,?_⟩
    ·intro p hp
     obtain ⟨v,hv,rfl⟩:=List.mem_map.mp hp
     exact ⟨hd v hv,show 1 + x ≤ 60 by first | decide | omega⟩
    ·exact ⟨_,_,rfl,by rw [gath_len,gath_len],by rw [gath_len];omega,qq⟩
  refine ⟨_,rfl,by decide +kernel,?_⟩
  rw [if_neg (by decide +kernel),if_pos rfl]
  exact fin [y,z] h2 q (by simp) _ _
 |num x k =>
  have h1:1 + x < n:=h1
  (try dsimp only);refine seq_intro fun N hN=>?_
  simp only [roD,VV]
  subst hN
  (try dsimp only);refine seq_intro fun N hN=>?_
  simp only [roD,VV]
  subst hN
  (try dsimp only);refine seq_intro fun N hN=>?_
  simp only [roD,VV]
  subst hN
  (try dsimp only);refine seq_intro fun N hN=>?_
  simp only [roD,VV]
  subst hN
  (try dsimp only);refine seq_intro fun N hN=>?_
  simp only [roD,VV]
  subst hN
  (try dsimp only);refine seq_intro fun N hN=>?_
  simp only [roD,VV]
  have fin:∀ ds:List Nat,(∀ v ∈ ds,1 + v < n)→Q (tD (eiT (gath n (woL n [1 + x])) (gath n (ds.map fun v=>(1 + v,1 + x))))) h→ds.length ≤ 2→∀ a1 a2,N [some (nD n),a1,a2,some (.int (1 + (x:Nat))),some (.tup (ds.map nD))] h:=by
   intro ds hd qq hl a1 a2
   subst hN
   simp only [VV]
   refine ⟨n,[1 + x],rfl,hn,?_⟩
   refine ⟨by simp;omega,?_⟩
   refine compL_map (fun p a δ h'=>h'=h∧a=(p.map fun v=>(1 + v,1 + x)).map pqD∧∃ x1,δ=[x1,some (.int (1 + (x:Nat)))]) ⟨rfl,rfl,none,rfl⟩ (fun _ _ _ _ _=>Src.ok_nil) ?_ ?_
   ·rintro p y r acc δ h' N1 e ⟨rfl,rfl,x1,rfl⟩ hN1
    simp only [VV]
    exact hN1 _ _ _ ⟨rfl,by rw [List.map_append,List.map_append];rfl,_,rfl⟩
   ·rintro a δ h' ⟨rfl,rfl,_⟩
    refine ⟨n,_,ds.map fun v=>(1 + v,1 + x),rfl,hn,rfl,?_,?_⟩
    ·intro p hp
     obtain ⟨v,hv,rfl⟩:=List.mem_map.mp hp
     exact ⟨hd v hv,show 1 + x ≤ 60 by first | decide | omega⟩
    ·exact ⟨_,_,rfl,by rw [gath_len,gath_len],by rw [gath_len];omega,qq⟩
  refine ⟨_,rfl,by decide +kernel,?_⟩
  rw [if_neg (by decide +kernel),if_neg (by decide +kernel)]
  exact fin [] h2 q (by simp) _ _
 |wash x =>
  have h1:1 + x < n:=h1
  (try dsimp only);refine seq_intro fun N hN=>?_
  simp only [roD,VV]
  subst hN
  (try dsimp only);refine seq_intro fun N hN=>?_
  simp only [roD,VV]
  subst hN
  (try dsimp only);refine seq_intro fun N hN=>?_
  simp only [roD,VV]
  subst hN
  (try dsimp only);refine seq_intro fun N hN=>?_
  simp only [roD,VV]
  subst hN
  (try dsimp only);refine seq_intro fun N hN=>?_
  simp only [roD,VV]
  subst hN
  (try dsimp only);refine seq_intro fun N hN=>?_
  simp only [roD,VV]
  have fin:∀ ds:List Nat,(∀ v ∈ ds,1 + v < n)→Q (tD (eiT (gath n (woL n [1 + x])) (gath n (ds.map fun v=>(1 + v,1 + x))))) h→ds.length ≤ 2→∀ a1 a2,N [some (nD n),a1,a2,some (.int (1 + (x:Nat))),some (.tup (ds.map nD))] h:=by
   intro ds hd qq hl a1 a2
   subst hN
   simp only [VV]
   refine ⟨n,[1 + x],rfl,hn,?_⟩
   refine ⟨by simp;omega,?_⟩
   refine compL_map (fun p a δ h'=>h'=h∧a=(p.map fun v=>(1 + v,1 + x)).map pqD∧∃ x1,δ=[x1,some (.int (1 + (x:Nat)))]) ⟨rfl,rfl,none,rfl⟩ (fun _ _ _ _ _=>Src.ok_nil) ?_ ?_
   ·rintro p y r acc δ h' N1 e ⟨rfl,rfl,x1,rfl⟩ hN1
    simp only [VV]
    exact hN1 _ _ _ ⟨rfl,by rw [List.map_append,List.map_append];rfl,_,rfl⟩
   ·rintro a δ h' ⟨rfl,rfl,_⟩
    refine ⟨n,_,ds.map fun v=>(1 + v,1 + x),rfl,hn,rfl,?_,?_⟩
    ·intro p hp
     obtain ⟨v,hv,rfl⟩:=List.mem_map.mp hp
     exact ⟨hd v hv,show 1 + x ≤ 60 by first | decide | omega⟩
    ·exact ⟨_,_,rfl,by rw [gath_len,gath_len],by rw [gath_len];omega,qq⟩
  refine ⟨_,rfl,by decide +kernel,?_⟩
  rw [if_neg (by decide +kernel),if_neg (by decide +kernel)]
  exact fin [] h2 q (by simp) _ _
theorem ok_q35{f:Addr}{fd:FuncData}(F:Fun K "step_table" "step_table" s_q35 f fd)(T:Txt P w K mg)(C_q34:Cal P w K mg base 1 "same" ["n"] (spD K 1 S_q34))(C_q30:Cal P w K mg base 1 "gathered" ["n","pairs"] (spD K 2 S_q30))(C_q28:Cal P w K mg base 1 "either" ["one","other"] (spD K 2 S_q28))(C_q37:Cal P w K mg base 2 "without" ["n","facts"] (spD K 2 S_q37)):FnOk P w K mg base CX0 3 f fd ["n","row"] (spD K 2 S_q35) :=
 fn_ok (k:=2) (b:=b_q35) F sc_q35 (fun cdv A outer s H E hr=>by
  refine ss_cons ?_ ?_
  ·refine s_set (i:=2) ?_ ?_ ?_ ?_
   ·exact sc_q35.nd
   ·exact rfl
   ·exact Or.inl rfl
   exact se_ix ok_ix (sv 1) se_int (fun _ _=>rfl)
  refine ss_cons ?_ ?_
  ·refine s_if ?_ ?_ ?_
   ·exact st_w (sw_or (st_cmp (ok_eq hr.units) (sv 2) se_str (nomark _)) (sw_or1 (st_cmp (ok_eq hr.units) (sv 2) se_str (nomark _))))
   ·refine ss_one ?_
    refine s_ret ?_
    exact se_cal C_q34 (hr.mono (by decide)) rfl (sa_cons (sv 0) sa_nil)
   exact ss_nil
  refine ss_cons ?_ ?_
  ·refine s_set (i:=3) ?_ ?_ ?_ ?_
   ·exact sc_q35.nd
   ·exact rfl
   ·exact Or.inr rfl
   exact se_op ok_plus se_int (se_ix ok_ix (sv 1) se_int (fun _ _=>rfl))
  refine ss_cons ?_ ?_
  ·refine s_if ?_ ?_ ?_
   ·exact st_cmp (ok_eq hr.units) (sv 2) se_str (nomark _)
   ·refine ss_one ?_
    refine s_ret ?_
    exact se_cal C_q28 (hr.mono (by decide)) rfl (sa_cons (se_cal C_q34 (hr.mono (by decide)) rfl (sa_cons (sv 0) sa_nil)) (sa_cons (se_cal C_q30 (hr.mono (by decide)) rfl (sa_cons (sv 0) (sa_cons (se_v (sn_lst (sa_cons (se_tup (sa_cons se_int (sa_cons (sv 3) sa_nil))) sa_nil))) sa_nil))) sa_nil))
   exact ss_nil
  refine ss_cons ?_ ?_
  ·refine s_if ?_ ?_ ?_
   ·exact st_cmp (ok_eq hr.units) (sv 2) se_str (nomark _)
   ·refine ss_one ?_
    refine s_ret ?_
    exact se_cal C_q30 (hr.mono (by decide)) rfl (sa_cons (sv 0) (sa_cons (se_v (sn_lst (sa_cons (se_tup (sa_cons se_int (sa_cons se_int sa_nil))) (sa_cons (se_tup (sa_cons (sv 3) (sa_cons (se_op ok_sub (sv 0) se_int) sa_nil))) sa_nil)))) sa_nil))
   exact ss_nil
  refine ss_cons ?_ ?_
  ·refine s_set (i:=4) ?_ ?_ ?_ ?_
   ·exact sc_q35.nd
   ·exact rfl
   ·exact Or.inl rfl
   exact se_getD2 hr.units (se_sl (sv 1) (so_some se_int) so_none) (se_sl (sv 1) (so_some se_int) so_none) (sv 2) (se_tup sa_nil) ⟨rfl,rfl,rfl,rfl⟩
  refine ss_one ?_
  refine s_ret ?_
  exact se_cal C_q28 (hr.mono (by decide)) rfl (sa_cons (se_cal C_q37 (hr.mono (by decide)) rfl (sa_cons (sv 0) (sa_cons (se_tup (sa_cons (sv 3) sa_nil)) sa_nil))) (sa_cons (se_cal C_q30 (hr.mono (by decide)) rfl (sa_cons (sv 0) (sa_cons (se_v (sn_comp rfl (N':= ["v","dyed"]) (js:=[none,some 3]) ⟨rfl,by decide +kernel,rfl,rfl,rfl⟩ (si_seq (sv 4)) (fun s0 H0 fp=>⟨(sg_name (i:=0) (show (["v","dyed"]:List Str).Nodup by decide +kernel) rfl (Or.inl rfl)),sf_nil,(se_tup (sa_cons (se_op ok_plus se_int (sv 0)) (sa_cons (sv 1) sa_nil)))⟩))) sa_nil))) sa_nil))) imp_q35
noncomputable def b_q21:DS:=(dSeq (dAsg (dCal S_q29 (dCons (dOp pIx (dVar 0) (dVar 1)) dNil)) (dName 4))
  (dSeq (dAsg (dOp pIx (dVar 3) (dC (.int 2))) (dName 5))
  (dSeq (dAsg (dCal S_q29 (dCons (dOp pIx (dVar 0) (dVar 5)) dNil)) (dName 6))
  (dSeq (dAsg (dOp pPlus (dC (.int 1)) (dOp pIx (dVar 3) (dC (.int 1)))) (dName 7))
  (dSeq (dAsg (dCal S_q30 (dCons (dVar 4) (dCons (dOp pPlus (dV (dCons (dTup (dCons (dC (.int 0)) (dCons (dC (.int 0)) dNil))) dNil)) (dV (dComp [none,none] (dIEnum (dCons (dOp pIx (dVar 3) (dC (.int 3))) dNil)) (dUnp 2 (dGCons (dName 0) (dGCons (dName 1) dGNil))) dNoIf (dTup (dCons (dOp pPlus (dC (.int 1)) (dVar 1)) (dCons (dOp pPlus (dC (.int 1)) (dVar 0)) dNil)))))) dNil))) (dName 8))
  (dSeq (dAsg (dCal S_q30 (dCons (dVar 6) (dCons (dV (dCons (dTup (dCons (dC (.int 0)) (dCons (dC (.int 0)) dNil))) (dCons (dTup (dCons (dOp pSub (dVar 6) (dC (.int 1))) (dCons (dVar 7) dNil))) dNil))) dNil))) (dName 9))
  (dRet (dTup (dCons (dC (.str "call")) (dCons (dVar 2) (dCons (dOp pPlus (dVar 2) (dC (.int 1))) (dCons (dC (.int 1)) (dCons (dVar 5) (dCons (dVar 8) (dCons (dVar 9) (dCons (dCal S_q37 (dCons (dVar 4) (dCons (dTup (dCons (dC (.int 0)) (dCons (dVar 7) dNil))) dNil))) dNil))))))))))))))))
noncomputable def caE(n m p x g:Nat)(ys:List Nat):Edge:={ p:=p,q:=p + 1,cost:=1,k:=.call g (gath n ((0,0) :: ys.zipIdx.map fun y=>(1 + y.1,1 + y.2))) (gath m [(0,0),(m - 1,1 + x)]) (gath n (woL n [0,1 + x])) }
noncomputable def S_q21:DSp:=fun ds h Q=>∃ (d:D) (P:List Fu) (f p x g:Nat) (ys:List Nat) (F G:Fu),ds=[d,nD f,nD p,roD (.call x g ys)]∧lsOf h d=some (P.map fuD)∧P[f]?=some F∧P[g]?=some G∧F.vars.length ≤ 4∧G.vars.length ≤ 4∧x < F.vars.length∧(∀ y ∈ ys,y < F.vars.length)∧ys.length ≤ G.vars.length∧Q (eD (caE (F.vars.length + 2) (G.vars.length + 2) p x g ys)) h
theorem imp_q21:∀ ds h Q,S_q21 ds h Q→runD 10 b_q21 ds h Q:=by
 rintro ds h Q ⟨d,P,f,p,x,g,ys,F,G,rfl,hd,hf,hg,lf,lg,hx,hy,hl,q⟩
 have i1:ixD h d (.int (f:Nat))=some (fuD F):=by rw [ix_ls hd,atN,List.getElem?_map,hf];rfl
 have i2:ixD h d (.int (g:Nat))=some (fuD G):=by rw [ix_ls hd,atN,List.getElem?_map,hg];rfl
 delta runD b_q21;simp only [List.map_cons,List.map_nil,List.cons_append,List.nil_append,List.length_cons,List.length_nil,List.replicate,Nat.reduceSub,Nat.reduceAdd,Nat.zero_add,Nat.sub_self]
 (try dsimp only);refine seq_intro fun N hN=>?_
 simp only [i1,VV]
 refine ⟨F,rfl,?_⟩
 subst hN
 (try dsimp only);refine seq_intro fun N hN=>?_
 simp only [roD,VV]
 subst hN
 (try dsimp only);refine seq_intro fun N hN=>?_
 simp only [i2,VV]
 refine ⟨G,rfl,?_⟩
 subst hN
 (try dsimp only);refine seq_intro fun N hN=>?_
 simp only [roD,VV]
 subst hN
 (try dsimp only);refine seq_intro fun N hN=>?_
 simp only [roD,VV]
 rw [enumD_map]
 refine ⟨by rw [List.length_map,List.length_zipIdx];omega,?_⟩
 refine compL_map (fun pp a δ h'=>h'=h∧a=(pp.map fun y:Nat×Nat=>(1 + y.1,1 + y.2)).map pqD∧∃ x1 x2,δ=[x1,x2]) ⟨rfl,rfl,none,none,rfl⟩ (fun _ _ _ _ _=>Src.ok_nil) ?_ ?_
 ·rintro pp ⟨y,i⟩ r acc δ h' N1 e ⟨rfl,rfl,x1,x2,rfl⟩ hN1
  rw [Int.zero_add]
  simp only [VV]
  exact ⟨trivial,hN1 _ _ _ ⟨rfl,by rw [List.map_append,List.map_append];rfl,_,_,rfl⟩⟩
 ·rintro a δ h' ⟨rfl,rfl,_⟩
  refine ⟨by simp;omega,?_⟩
  refine ⟨_,_,(0,0) :: ys.zipIdx.map fun y=>(1 + y.1,1 + y.2),rfl,by first | decide | omega,rfl,?_,?_⟩
  ·intro pp hp
   rcases List.mem_cons.mp hp with rfl | hp
   ·exact ⟨Nat.succ_pos _,by decide⟩
   ·obtain ⟨⟨y,i⟩,hv,rfl⟩:=List.mem_map.mp hp
    have a1:=hy y (List.fst_mem_of_mem_zipIdx hv)
    have a2:=List.snd_lt_of_mem_zipIdx hv
    exact ⟨show 1 + y < F.vars.length + 2 by first | decide | omega,show 1 + i ≤ 60 by simp at a2;omega⟩
  ·subst hN
   (try dsimp only);refine seq_intro fun N hN=>?_
   simp only [VV]
   refine ⟨_,_,[(0,0),(G.vars.length + 2 - 1,1 + x)],rfl,by first | decide | omega,?_,by simp;omega,?_⟩
   ·have e:((G.vars.length + 2:Nat):Int) - 1=((G.vars.length + 2 - 1:Nat):Int):=by first | decide | omega
    rw [e];rfl
   ·subst hN
    simp only [VV]
    refine ⟨_,[0,1 + x],rfl,by first | decide | omega,?_⟩
    exact q
theorem ok_q21{f:Addr}{fd:FuncData}(F:Fun K "call_edge" "call_edge" s_q21 f fd)(T:Txt P w K mg)(C_q29:Cal P w K mg base 1 "facts_of" ["function"] (spD K 1 S_q29))(C_q30:Cal P w K mg base 1 "gathered" ["n","pairs"] (spD K 2 S_q30))(C_q37:Cal P w K mg base 2 "without" ["n","facts"] (spD K 2 S_q37)):FnOk P w K mg base CX0 3 f fd ["program","f","p","row"] (spD K 4 S_q21) :=
 fn_ok (k:=2) (b:=b_q21) F sc_q21 (fun cdv A outer s H E hr=>by
  refine ss_cons ?_ ?_
  ·refine s_set (i:=4) ?_ ?_ ?_ ?_
   ·exact sc_q21.nd
   ·exact rfl
   ·exact Or.inl rfl
   exact se_cal C_q29 (hr.mono (by decide)) rfl (sa_cons (se_ix ok_ix (sv 0) (sv 1) (fun _ _=>rfl)) sa_nil)
  refine ss_cons ?_ ?_
  ·refine s_set (i:=5) ?_ ?_ ?_ ?_
   ·exact sc_q21.nd
   ·exact rfl
   ·exact Or.inl rfl
   exact se_ix ok_ix (sv 3) se_int (fun _ _=>rfl)
  refine ss_cons ?_ ?_
  ·refine s_set (i:=6) ?_ ?_ ?_ ?_
   ·exact sc_q21.nd
   ·exact rfl
   ·exact Or.inl rfl
   exact se_cal C_q29 (hr.mono (by decide)) rfl (sa_cons (se_ix ok_ix (sv 0) (sv 5) (fun _ _=>rfl)) sa_nil)
  refine ss_cons ?_ ?_
  ·refine s_set (i:=7) ?_ ?_ ?_ ?_
   ·exact sc_q21.nd
   ·exact rfl
   ·exact Or.inl rfl
   exact se_op ok_plus se_int (se_ix ok_ix (sv 3) se_int (fun _ _=>rfl))
  refine ss_cons ?_ ?_
  ·refine s_set (i:=8) ?_ ?_ ?_ ?_
   ·exact sc_q21.nd
   ·exact rfl
   ·exact Or.inl rfl
   exact se_cal C_q30 (hr.mono (by decide)) rfl (sa_cons (sv 4) (sa_cons (se_op ok_plus (se_v (sn_lst (sa_cons (se_tup (sa_cons se_int (sa_cons se_int sa_nil))) sa_nil))) (se_v (sn_comp rfl (N':= ["i","v"]) (js:=[none,none]) ⟨rfl,by decide +kernel,rfl,rfl,rfl⟩ (si_enum rfl T.b_enumerate (sa_cons (se_ix ok_ix (sv 3) se_int (fun _ _=>rfl)) sa_nil)) (fun s0 H0 fp=>⟨(sg_tup rfl (sgs_cons (sg_name (i:=0) (show (["i","v"]:List Str).Nodup by decide +kernel) rfl (Or.inl rfl)) (sgs_cons (sg_name (i:=1) (show (["i","v"]:List Str).Nodup by decide +kernel) rfl (Or.inl rfl)) sgs_nil))),sf_nil,(se_tup (sa_cons (se_op ok_plus se_int (sv 1)) (sa_cons (se_op ok_plus se_int (sv 0)) sa_nil)))⟩)))) sa_nil))
  refine ss_cons ?_ ?_
  ·refine s_set (i:=9) ?_ ?_ ?_ ?_
   ·exact sc_q21.nd
   ·exact rfl
   ·exact Or.inl rfl
   exact se_cal C_q30 (hr.mono (by decide)) rfl (sa_cons (sv 6) (sa_cons (se_v (sn_lst (sa_cons (se_tup (sa_cons se_int (sa_cons se_int sa_nil))) (sa_cons (se_tup (sa_cons (se_op ok_sub (sv 6) se_int) (sa_cons (sv 7) sa_nil))) sa_nil)))) sa_nil))
  refine ss_one ?_
  refine s_ret ?_
  refine se_tup (n:=8) ?_
  refine sa_cons ?_ ?_
  ·exact se_str
  refine sa_cons ?_ ?_
  ·exact sv 2
  refine sa_cons ?_ ?_
  ·exact se_op ok_plus (sv 2) se_int
  refine sa_cons ?_ ?_
  ·exact se_int
  refine sa_cons ?_ ?_
  ·exact sv 5
  refine sa_cons ?_ ?_
  ·exact sv 8
  refine sa_cons ?_ ?_
  ·exact sv 9
  refine sa_cons ?_ ?_
  ·exact se_cal C_q37 (hr.mono (by decide)) rfl (sa_cons (sv 4) (sa_cons (se_tup (sa_cons se_int (sa_cons (sv 7) sa_nil))) sa_nil))
  exact sa_nil) imp_q21
noncomputable def b_q27:DS:=(dSeq (dAsg (dOp pIx (dVar 1) (dC (.int 0))) (dName 3))
  (dSeq (dAsg (dOp pIx (dVar 1) (dC (.int 1))) (dName 4))
  (dSeq (dIfS (dNot (dAnd (dTst (dChain pLe pLtI (dC (.int 0)) (dOp pIx (dVar 2) (dC (.int 1))) (dVar 3))) (dAnd (dTst (dChain pLe pLtI (dC (.int 0)) (dOp pIx (dVar 2) (dC (.int 2))) (dVar 3))) (dTst (dChain pLe pLe (dC (.int 1)) (dOp pIx (dVar 2) (dC (.int 3))) (dOp pPow (dC (.int 10)) (dC (.int 18)))))))) (dRet (dC (.bl false))) dNext)
  (dSeq (dIfS (dTst (dOp (pEq false) (dOp pIx (dVar 2) (dC (.int 0))) (dC (.str "step")))) (dRet (dCal S_q36 (dCons (dOp pIx (dVar 2) (dC (.int 4))) (dCons (dVar 4) (dCons (dVar 4) dNil))))) dNext)
  (dSeq (dIfS (dTst (dOp (pEq false) (dOp pIx (dVar 2) (dC (.int 0))) (dC (.str "call")))) (dRet (dCal S_q22 (dCons (dVar 0) (dCons (dVar 4) (dCons (dVar 2) dNil))))) dNext)
  (dRet (dC (.bl false))))))))
noncomputable def S_q27:DSp:=fun ds h Q=>∃ (c x:D) (C:Chart) (F:Fn) (E:Edge),ds=[c,.tup [nD F.places,nD F.facts,x],eD E]∧ChD h c C∧WF C∧F.facts ≤ 6∧eOk C F E∧Q (.bl true) h
theorem imp_q27:∀ ds h Q,S_q27 ds h Q→runD 5 b_q27 ds h Q:=by
 rintro ds h Q ⟨c,x,C,F,E,rfl,hc,wf,h6,ok,q⟩
 obtain ⟨o1,o2,o3,o4,o5⟩:=id ok
 have c1:(0:Int) ≤ (E.p:Int):=by first | decide | omega
 have c2:(E.p:Int) < (F.places:Int):=by first | decide | omega
 have c3:(0:Int) ≤ (E.q:Int):=by first | decide | omega
 have c4:(E.q:Int) < (F.places:Int):=by first | decide | omega
 have c5:(1:Int) ≤ (E.cost:Int):=by first | decide | omega
 have e10:(10:Int) ^ (18:Int).toNat=1000000000000000000:=by decide
 have c6:(E.cost:Int) ≤ 1000000000000000000:=by first | decide | omega
 delta runD b_q27;simp only [List.map_cons,List.map_nil,List.cons_append,List.nil_append,List.length_cons,List.length_nil,List.replicate,Nat.reduceSub,Nat.reduceAdd,Nat.zero_add,Nat.sub_self]
 (try dsimp only);refine seq_intro fun N hN=>?_
 simp only [VV]
 subst hN
 (try dsimp only);refine seq_intro fun N hN=>?_
 simp only [VV]
 subst hN
 (try dsimp only);refine seq_intro fun N hN=>?_
 simp only [eD_1,eD_2,eD_3,c1,c2,c3,c4,c5,e10,c6,VV]
 refine ⟨⟨by decide,by decide,by decide⟩,?_⟩
 subst hN
 (try dsimp only);refine seq_intro fun N hN=>?_
 obtain ⟨p,q',co,k⟩:=E
 cases k with
 |step t =>
  simp only [eD,VV]
  exact ⟨t,F.facts,F.facts,rfl,o5,h6,h6,q⟩
 |call g i b o =>
  simp only [eD,VV]
  subst hN
  (try dsimp only);refine seq_intro fun N hN=>?_
  simp only [VV]
  exact ⟨c,C,F,_,g,i,b,o,rfl,hc,wf,h6,rfl,ok,q⟩
theorem ok_q27{f:Addr}{fd:FuncData}(F:Fun K "edge_fits" "edge_fits" s_q27 f fd)(T:Txt P w K mg)(C_q36:Cal P w K mg base 1 "table_fits" ["table","n","to"] (spD K 3 S_q36))(C_q22:Cal P w K mg base 2 "call_fits" ["chart","facts","edge"] (spD K 3 S_q22)):FnOk P w K mg base CX0 3 f fd ["chart","function","edge"] (spD K 3 S_q27) :=
 fn_ok (k:=2) (b:=b_q27) F sc_q27 (fun cdv A outer s H E hr=>by
  refine ss_cons ?_ ?_
  ·refine s_set (i:=3) ?_ ?_ ?_ ?_
   ·exact sc_q27.nd
   ·exact rfl
   ·exact Or.inl rfl
   exact se_ix ok_ix (sv 1) se_int (fun _ _=>rfl)
  refine ss_cons ?_ ?_
  ·refine s_set (i:=4) ?_ ?_ ?_ ?_
   ·exact sc_q27.nd
   ·exact rfl
   ·exact Or.inl rfl
   exact se_ix ok_ix (sv 1) se_int (fun _ _=>rfl)
  refine ss_cons ?_ ?_
  ·refine s_if ?_ ?_ ?_
   ·exact st_not (st_w (sw_and (st_chain ok_le ok_ltI se_int (se_ix ok_ix (sv 2) se_int (fun _ _=>rfl)) (sv 3)) (sw_and (st_chain ok_le ok_ltI se_int (se_ix ok_ix (sv 2) se_int (fun _ _=>rfl)) (sv 3)) (sw_and1 (st_chain ok_le ok_le se_int (se_ix ok_ix (sv 2) se_int (fun _ _=>rfl)) (se_op ok_pow se_int se_int))))))
   ·refine ss_one ?_
    refine s_ret ?_
    exact se_bl
   exact ss_nil
  refine ss_cons ?_ ?_
  ·refine s_if ?_ ?_ ?_
   ·exact st_cmp (ok_eq hr.units) (se_ix ok_ix (sv 2) se_int (fun _ _=>rfl)) se_str (nomark _)
   ·refine ss_one ?_
    refine s_ret ?_
    exact se_cal C_q36 (hr.mono (by decide)) rfl (sa_cons (se_ix ok_ix (sv 2) se_int (fun _ _=>rfl)) (sa_cons (sv 4) (sa_cons (sv 4) sa_nil)))
   exact ss_nil
  refine ss_cons ?_ ?_
  ·refine s_if ?_ ?_ ?_
   ·exact st_cmp (ok_eq hr.units) (se_ix ok_ix (sv 2) se_int (fun _ _=>rfl)) se_str (nomark _)
   ·refine ss_one ?_
    refine s_ret ?_
    exact se_cal C_q22 (hr.mono (by decide)) rfl (sa_cons (sv 0) (sa_cons (sv 4) (sa_cons (sv 2) sa_nil)))
   exact ss_nil
  refine ss_one ?_
  refine s_ret ?_
  exact se_bl) imp_q27
noncomputable def b_q33:DS:=(dSeq (dIfS (dTst (dOp (pEq false) (dOp pIx (dVar 3) (dC (.int 0))) (dC (.str "call")))) (dRet (dV (dCons (dCal S_q21 (dCons (dVar 0) (dCons (dVar 1) (dCons (dVar 2) (dCons (dVar 3) dNil))))) dNil))) dNext)
  (dSeq (dAsg (dCal S_q35 (dCons (dCal S_q29 (dCons (dOp pIx (dVar 0) (dVar 1)) dNil)) (dCons (dVar 3) dNil))) (dName 4))
  (dRet (dV (dComp [none,some 2,some 4] (dISeq (dCal S_q32 (dCons (dVar 2) (dCons (dVar 3) (dCons (dCB pLen (dCons (dOp pIx (dOp pIx (dVar 0) (dVar 1)) (dC (.int 3))) dNil)) dNil))))) (dName 0) dNoIf (dTup (dCons (dC (.str "step")) (dCons (dVar 1) (dCons (dVar 0) (dCons (dC (.int 1)) (dCons (dVar 2) dNil)))))))))))
noncomputable def wd:Rw→Str
 |.num _ _=> "number" | .copy _ _=> "copy" | .does _ _ _ _=> "does" | .dye _=> "dye" | .wash _=> "wash" | .ifq _ _=> "if" | .to _=> "to" | .ret _=> "return" | .call _ _ _=> "call"
theorem ro_0(h:Hh)(r:Rw):ixD h (roD r) (.int 0)=some (.str (wd r)):=by cases r <;> exact atI_0 ..
theorem wd_ok:∀ r:Rw,PyData.strOk (wd r)=true
 |.num _ _=>K64w.sk_number_ | .copy _ _=>K64w.sk_copy_ | .does _ _ _ _=>K64w.sk_does_ | .dye _=>K64w.sk_dye_ | .wash _=>K64w.sk_wash_ | .ifq _ _=>K64w.sk_if_ | .to _=>K64w.sk_to_ | .ret _=>K64w.sk_return_ | .call _ _ _=>sk_call
theorem wd_call:∀ {r:Rw},(∀ x g ys,r ≠ .call x g ys)→(wd r == Str.ofString "call")=false
 |.num _ _,_=>K64w.sq_number_call_ | .copy _ _,_=>K64w.sq_copy_call_ | .does _ _ _ _,_=>K64w.sq_does_call_ | .dye _,_=>K64w.sq_dye_call_ | .wash _,_=>K64w.sq_wash_call_ | .ifq _ _,_=>K64w.sq_if_call_ | .to _,_=>K64w.sq_to_call_ | .ret _,_=>K64w.sq_return_call_ | .call x g ys,hr=>(hr x g ys rfl).elim
noncomputable def factsAt(P:List Fu)(g:Nat):Nat:=(P[g]?.map fun G=>G.vars.length + 2).getD 0
noncomputable def stE(F:Fu)(p:Nat)(r:Rw)(z:Nat):Edge:={ p:=p,q:=z,cost:=1,k:=.step (stT (F.vars.length + 2) r) }
noncomputable def rowE(P:List Fu)(F:Fu)(p:Nat)(r:Rw):List Edge:=match r with
 |.call x g ys=>[caE (F.vars.length + 2) (factsAt P g) p x g ys]
 |r=>(behind p r F.rows.length).map (stE F p r)
noncomputable def rowOk(P:List Fu)(F:Fu)(r:Rw):Prop:=match r with
 |.call x g ys=>x < F.vars.length∧(∀ y ∈ ys,y < F.vars.length)∧∃ G,P[g]?=some G∧G.vars.length ≤ 4∧ys.length ≤ G.vars.length
 |r=>rOk (F.vars.length + 2) r
noncomputable def S_q33:DSp:=fun ds h Q=>∃ (d:D) (P:List Fu) (f p:Nat) (r:Rw) (F:Fu),ds=[d,nD f,nD p,roD r]∧lsOf h d=some (P.map fuD)∧P[f]?=some F∧F.vars.length ≤ 4∧rowOk P F r∧Q (.lst ((rowE P F p r).map eD)) h
theorem imp_q33:∀ ds h Q,S_q33 ds h Q→runD 5 b_q33 ds h Q:=by
 rintro ds h Q ⟨d,P,f,p,r,F,rfl,hd,hf,lf,hr,q⟩
 have i1:ixD h d (.int (f:Nat))=some (fuD F):=by rw [ix_ls hd,atN,List.getElem?_map,hf];rfl
 delta runD b_q33;simp only [List.map_cons,List.map_nil,List.cons_append,List.nil_append,List.length_cons,List.length_nil,List.replicate,Nat.reduceSub,Nat.reduceAdd,Nat.zero_add,Nat.sub_self]
 by_cases hc:∃ x g ys,r = .call x g ys
 ·obtain ⟨x,g,ys,rfl⟩:=hc
  obtain ⟨hx,hy,G,hg,lg,hl⟩:=hr
  (try dsimp only);refine seq_intro fun N hN=>?_
  simp only [ro_0,wd,VV]
  refine ⟨d,P,f,p,x,g,ys,F,G,rfl,hd,hf,hg,lf,lg,hx,hy,hl,?_⟩
  have e:factsAt P g=G.vars.length + 2:=by unfold factsAt;rw [hg];rfl
  have q:Q (.lst [eD (caE (F.vars.length + 2) (factsAt P g) p x g ys)]) h:=q
  rw [e] at q
  exact q
 ·have hn:∀ x g ys,r ≠ .call x g ys:=fun x g ys z=>hc ⟨x,g,ys,z⟩
  have ho:rOk (F.vars.length + 2) r:=by
   cases r with
   |call x g ys=>exact (hn x g ys rfl).elim
   |_=>exact hr
  have q:Q (.lst (((behind p r F.rows.length).map (stE F p r)).map eD)) h:=by
   cases r with
   |call x g ys=>exact (hn x g ys rfl).elim
   |_=>exact q
  (try dsimp only);refine seq_intro fun N hN=>?_
  simp only [ro_0,wd_ok,wd_call hn,VV]
  subst hN
  (try dsimp only);refine seq_intro fun N hN=>?_
  simp only [i1,VV]
  refine ⟨F,rfl,?_⟩
  refine ⟨_,r,rfl,by first | decide | omega,ho,?_⟩
  subst hN
  simp only [i1,fuD,List.length_map,VV]
  refine ⟨p,r,F.rows.length,rfl,?_⟩
  have bl:(behind p r F.rows.length).length ≤ 2:=by cases r <;> simp [behind]
  simp only [List.length_map,VV]
  refine ⟨by first | decide | omega,?_⟩
  refine compL_map (fun pp a δ h'=>h'=h∧a=(pp.map (stE F p r)).map eD∧∃ x1,δ=[x1,some (nD p),some (tD (stT (F.vars.length + 2) r))]) ⟨rfl,rfl,none,rfl⟩ (fun _ _ _ _ _=>Src.ok_nil) ?_ ?_
  ·rintro pp y rr acc δ h' N1 e ⟨rfl,rfl,x1,rfl⟩ hN1
   simp only [VV]
   exact hN1 _ _ _ ⟨rfl,by rw [List.map_append,List.map_append];rfl,_,rfl⟩
  ·rintro a δ h' ⟨rfl,rfl,_⟩
   exact q
theorem ok_q33{f:Addr}{fd:FuncData}(F:Fun K "row_edges" "row_edges" s_q33 f fd)(T:Txt P w K mg)(C_q21:Cal P w K mg base 3 "call_edge" ["program","f","p","row"] (spD K 4 S_q21))(C_q29:Cal P w K mg base 1 "facts_of" ["function"] (spD K 1 S_q29))(C_q35:Cal P w K mg base 3 "step_table" ["n","row"] (spD K 2 S_q35))(C_q32:Cal P w K mg base 1 "places_behind" ["p","row","exit_place"] (spD K 3 S_q32)):FnOk P w K mg base CX0 4 f fd ["program","f","p","row"] (spD K 4 S_q33) :=
 fn_ok (k:=3) (b:=b_q33) F sc_q33 (fun cdv A outer s H E hr=>by
  refine ss_cons ?_ ?_
  ·refine s_if ?_ ?_ ?_
   ·exact st_cmp (ok_eq hr.units) (se_ix ok_ix (sv 3) se_int (fun _ _=>rfl)) se_str (nomark _)
   ·refine ss_one ?_
    refine s_ret ?_
    refine se_v ?_
    refine sn_lst (n:=1) ?_
    refine sa_cons ?_ ?_
    ·exact se_cal C_q21 (hr.mono (by decide)) rfl (sa_cons (sv 0) (sa_cons (sv 1) (sa_cons (sv 2) (sa_cons (sv 3) sa_nil))))
    exact sa_nil
   exact ss_nil
  refine ss_cons ?_ ?_
  ·refine s_set (i:=4) ?_ ?_ ?_ ?_
   ·exact sc_q33.nd
   ·exact rfl
   ·exact Or.inr rfl
   exact se_cal C_q35 (hr.mono (by decide)) rfl (sa_cons (se_cal C_q29 (hr.mono (by decide)) rfl (sa_cons (se_ix ok_ix (sv 0) (sv 1) (fun _ _=>rfl)) sa_nil)) (sa_cons (sv 3) sa_nil))
  refine ss_one ?_
  refine s_ret ?_
  refine se_v ?_
  exact sn_comp rfl (N':= ["q","p","table"]) (js:=[none,some 2,some 4]) ⟨rfl,by decide +kernel,rfl,rfl,rfl⟩ (si_seq (se_cal C_q32 (hr.mono (by decide)) rfl (sa_cons (sv 2) (sa_cons (sv 3) (sa_cons (se_callB ok_len rfl T.b_len PySem.boot_len (sa_cons (se_ix ok_ix (se_ix ok_ix (sv 0) (sv 1) (fun _ _=>rfl)) se_int (fun _ _=>rfl)) sa_nil)) sa_nil))))) (fun s0 H0 fp=>⟨(sg_name (i:=0) (show (["q","p","table"]:List Str).Nodup by decide +kernel) rfl (Or.inl rfl)),sf_nil,(se_tup (sa_cons se_str (sa_cons (sv 1) (sa_cons (sv 0) (sa_cons se_int (sa_cons (sv 2) sa_nil))))))⟩)) imp_q33
noncomputable def b_q24:DS:=(dSeq (dAsg (dC (.int 0)) (dName 1))
  (dFor (dIEnum (dCons (dVar 0) dNil)) (dUnp 2 (dGCons (dName 2) (dGCons (dName 3) dGNil))) (dFor (dIEnum (dCons (dOp pIx (dVar 3) (dC (.int 2))) dNil)) (dUnp 2 (dGCons (dName 4) (dGCons (dName 5) dGNil))) (dSeq (dIfS (dOr (dTst (dOp (pEq false) (dVar 1) (dC (.int 24)))) (dNot (dTr (dCal S_q27 (dCons (dVar 0) (dCons (dVar 3) (dCons (dVar 5) dNil))))))) dNever dNext)
  (dAug 1 (dC (.int 1)) (pI0 fun i j=>i + j))))))
noncomputable def S_q24:DSp:=fun ds h Q=>∃ (c:D) (C:Chart),ds=[c]∧ChD h c C∧WF C∧many C ≤ 24∧Q .non h
theorem imp_q24:∀ ds h Q,S_q24 ds h Q→runD 6 b_q24 ds h Q:=by
 rintro ds h Q ⟨c,C,rfl,hc,wf,hm,q⟩
 delta runD b_q24;simp only [List.map_cons,List.map_nil,List.cons_append,List.nil_append,List.length_cons,List.length_nil,List.replicate,Nat.reduceSub,Nat.reduceAdd,Nat.zero_add,Nat.sub_self]
 (try dsimp only);refine seq_intro fun N hN=>?_
 simp only [VV]
 subst hN
 obtain ⟨ys,hr,hy,hz⟩:=hc.rows
 obtain ⟨w,s1,s2⟩:=src_pre hr
 simp only [s1 _ (Pre.refl _),VV]
 rw [enumD_map]
 have mn:∀ (p:List ((Fn×D)×Nat)) (y:(Fn×D)×Nat) (r:List ((Fn×D)×Nat)),ys.zipIdx=p ++ y :: r→(p.map fun z=>z.1.1.edges.length).sum + y.1.1.edges.length ≤ 24:=by
  intro p y r e
  have:many C=(ys.zipIdx.map fun z=>z.1.1.edges.length).sum:=by
   unfold many
   rw [← hy,List.map_map]
   congr 1
   have:ys.map ((fun F:Fn=>F.edges.length) ∘ fun z=>z.1)=(ys.zipIdx.map (·.1)).map fun z=>z.1.edges.length:=by rw [List.zipIdx_map_fst];rfl
   rw [this,List.map_map];rfl
  rw [e,List.map_append,List.map_cons,List.sum_append,List.sum_cons] at this
  omega
 refine forL_map (fun p δ h'=>h'=h∧∃ (x2 x3 x4 x5:Option D),δ=[some c,some (nD (p.map fun z=>z.1.1.edges.length).sum),x2,x3,x4,x5]) ⟨rfl,none,none,none,none,rfl⟩ ?_ ?_ ?_
 ·rintro p δ h' ⟨rfl,_⟩
  exact s2 _ _ (Pre.refl _)
 ·rintro p ⟨⟨F,x⟩,i⟩ r δ h' N1 e ⟨rfl,x2,x3,x4,x5,rfl⟩ hN1
  have hxm:(F,x) ∈ ys:=by
   have:((F,x),i) ∈ ys.zipIdx:=by rw [e];simp
   exact List.fst_mem_of_mem_zipIdx this
  have hm':F ∈ C:=by rw [← hy];exact List.mem_map.mpr ⟨(F,x),hxm,rfl⟩
  obtain ⟨f,hf⟩:=List.mem_iff_getElem?.mp hm'
  obtain ⟨q1,q2,q3,q4,q5,q6⟩:=wf.fn f F hf
  have bd:=mn _ _ _ e
  have hx:=hz _ hxm
  obtain ⟨w',t1,t2⟩:=src_pre hx
  generalize hs:(p.map fun z=>z.1.1.edges.length).sum=s at bd
  simp only [rwD,t1 _ (Pre.refl _),VV]
  refine ⟨trivial,?_⟩
  rw [enumD_map]
  refine forL_map (fun p' δ h1=>h1=h'∧∃ (x4 x5:Option D),δ=[some c,some (nD (s + p'.length)),some (.int (0 + (i:Int))),some (.tup [nD F.places,nD F.facts,x]),x4,x5]) ⟨rfl,_,_,rfl⟩ ?_ ?_ ?_
  ·rintro p' δ h1 ⟨rfl,_⟩
   exact t2 _ _ (Pre.refl _)
  ·rintro p' ⟨E,j⟩ r' δ h1 N2 e' ⟨rfl,x4,x5,rfl⟩ hN2
   have hE:E ∈ F.edges:=by
    have:(E,j) ∈ F.edges.zipIdx:=by rw [e'];simp
    exact List.fst_mem_of_mem_zipIdx this
   have pl:p'.length < F.edges.length:=by
    have:p'.length < F.edges.zipIdx.length:=by rw [e'];simp
    simpa using this
   have ne:(((s + p'.length:Nat):Int) == 24)=false:=by
    have:((s + p'.length:Nat):Int) ≠ 24:=by
     have bd:s + F.edges.length ≤ 24:=bd
     omega
    simpa using this
   simp only [VV]
   refine ⟨trivial,?_⟩
   (try dsimp only);refine seq_intro fun N hN=>?_
   simp only [ne,VV]
   refine ⟨c,x,C,F,E,rfl,hc,wf,q4,q6 E hE,?_⟩
   simp only [VV]
   subst hN
   simp only [VV]
   refine hN2 _ _ ⟨rfl,some (.int (0 + (j:Int))),some (eD E),?_⟩
   rw [List.length_append,List.length_singleton,← Nat.add_assoc];rfl
  ·rintro δ h1 ⟨rfl,x4,x5,rfl⟩
   refine hN1 _ _ ⟨rfl,some (.int (0 + (i:Int))),some (.tup [nD F.places,nD F.facts,x]),x4,x5,?_⟩
   rw [List.length_zipIdx,List.map_append,List.sum_append,hs]
   simp
 ·rintro δ h' ⟨rfl,x2,x3,x4,x5,rfl⟩
  exact q
theorem ok_q24{f:Addr}{fd:FuncData}(F:Fun K "check_edges" "check_edges" s_q24 f fd)(T:Txt P w K mg)(C_q27:Cal P w K mg base 3 "edge_fits" ["chart","function","edge"] (spD K 3 S_q27)):FnOk P w K mg base CX0 4 f fd ["chart"] (spD K 1 S_q24) :=
 fn_ok (k:=3) (b:=b_q24) F sc_q24 (fun cdv A outer s H E hr=>by
  refine ss_cons ?_ ?_
  ·refine s_set (i:=1) ?_ ?_ ?_ ?_
   ·exact sc_q24.nd
   ·exact rfl
   ·exact Or.inl rfl
   exact se_int
  refine ss_one ?_
  refine s_for ?_ ?_ ?_ ?_ ?_
  ·exact PassesOwn.never
  ·exact rfl
  ·exact si_enum rfl T.b_enumerate (sa_cons (sv 0) sa_nil)
  ·exact sg_tup rfl (sgs_cons (sg_name (i:=2) sc_q24.nd rfl (Or.inl rfl)) (sgs_cons (sg_name (i:=3) sc_q24.nd rfl (Or.inl rfl)) sgs_nil))
  refine ss_one ?_
  refine s_for ?_ ?_ ?_ ?_ ?_
  ·exact PassesOwn.never
  ·exact rfl
  ·exact si_enum rfl T.b_enumerate (sa_cons (se_ix ok_ix (sv 3) se_int (fun _ _=>rfl)) sa_nil)
  ·exact sg_tup rfl (sgs_cons (sg_name (i:=4) sc_q24.nd rfl (Or.inl rfl)) (sgs_cons (sg_name (i:=5) sc_q24.nd rfl (Or.inl rfl)) sgs_nil))
  refine ss_cons ?_ ?_
  ·refine s_if ?_ ?_ ?_
   ·exact st_w (sw_or (st_cmp (ok_eq hr.units) (sv 1) (se_globI rfl T.c_MOST_EDGES) (nomark _)) (sw_or1 (st_not (st_truth (se_cal C_q27 (hr.mono (by decide)) rfl (sa_cons (sv 0) (sa_cons (sv 3) (sa_cons (sv 5) sa_nil))))))))
   ·refine ss_one ?_
    exact s_never
   exact ss_nil
  refine ss_one ?_
  exact s_aug (i:=1) sc_q24.nd rfl (Or.inl rfl) se_int iok_add) imp_q24
noncomputable def b_q26:DS:=(dSeq (dDrop (dCal S_q25 (dCons (dVar 0) dNil)))
  (dSeq (dDrop (dCal S_q24 (dCons (dVar 0) dNil)))
  (dRet (dV (dComp [none,none,none] (dISeq (dVar 0)) (dUnp 3 (dGCons (dName 0) (dGCons (dName 1) (dGCons (dName 2) dGNil)))) dNoIf (dTup (dCons (dVar 0) (dCons (dVar 1) (dCons (dV (dListOf (dCons (dVar 2) dNil))) dNil)))))))))
noncomputable def S_q26:DSp:=fun ds h Q=>∃ (c:D) (C:Chart),ds=[c]∧ChD h c C∧WF C∧many C ≤ 24∧Q (cD C) h
theorem imp_q26:∀ ds h Q,S_q26 ds h Q→runD 1 b_q26 ds h Q:=by
 rintro ds h Q ⟨c,C,rfl,hc,wf,hm,q⟩
 delta runD b_q26;simp only [List.map_cons,List.map_nil,List.cons_append,List.nil_append,List.length_cons,List.length_nil,List.replicate,Nat.reduceSub,Nat.reduceAdd,Nat.zero_add,Nat.sub_self]
 (try dsimp only);refine seq_intro fun N hN=>?_
 simp only [VV]
 refine ⟨c,C,rfl,hc,wf,?_⟩
 subst hN
 (try dsimp only);refine seq_intro fun N hN=>?_
 simp only [VV]
 refine ⟨c,C,rfl,hc,wf,hm,?_⟩
 subst hN
 obtain ⟨ys,hr,hy,hz⟩:=hc.rows
 obtain ⟨w,s1,s2⟩:=src_pre hr
 have yl:ys.length ≤ 6:=by rw [← List.length_map (f:=(·.1)),hy];exact wf.six
 simp only [s1 _ (Pre.refl _),VV]
 refine ⟨by rw [List.length_map];omega,?_⟩
 refine compL_map (fun p a δ h'=>h'=h∧(∃ x0 x1 x2,δ=[x0,x1,x2])∧a=p.map fun y=>fD y.1) ⟨rfl,⟨none,none,none,rfl⟩,rfl⟩ ?_ ?_ ?_
 ·rintro p a δ h' ⟨rfl,_⟩
  exact s2 _ _ (Pre.refl _)
 ·rintro p ⟨F,x⟩ r acc δ h' N1 e ⟨rfl,⟨x0,x1,x2,rfl⟩,rfl⟩ hN1
  have hx:=hz (F,x) (by rw [e];simp)
  simp only [rwD,seq_ls hx,VV]
  exact ⟨trivial,hN1 _ _ _ ⟨rfl,⟨_,_,_,rfl⟩,by rw [List.map_append];rfl⟩⟩
 ·rintro a δ h' ⟨rfl,_,rfl⟩
  have:(ys.map fun y=>fD y.1)=C.map fD:=by rw [← hy,List.map_map];rfl
  rw [this]
  exact q
theorem ok_q26{f:Addr}{fd:FuncData}(F:Fun K "checked" "checked" s_q26 f fd)(T:Txt P w K mg)(C_q25:Cal P w K mg base 1 "check_functions" ["chart"] (spD K 1 S_q25))(C_q24:Cal P w K mg base 4 "check_edges" ["chart"] (spD K 1 S_q24)):FnOk P w K mg base CX0 5 f fd ["chart"] (spD K 1 S_q26) :=
 fn_ok (k:=4) (b:=b_q26) F sc_q26 (fun cdv A outer s H E hr=>by
  refine ss_cons ?_ ?_
  ·refine s_expr ?_
   exact se_cal C_q25 (hr.mono (by decide)) rfl (sa_cons (sv 0) sa_nil)
  refine ss_cons ?_ ?_
  ·refine s_expr ?_
   exact se_cal C_q24 (hr.mono (by decide)) rfl (sa_cons (sv 0) sa_nil)
  refine ss_one ?_
  refine s_ret ?_
  refine se_v ?_
  exact sn_comp rfl (N':= ["places","facts","edges"]) (js:=[none,none,none]) ⟨rfl,by decide +kernel,rfl,rfl,rfl⟩ (si_seq (sv 0)) (fun s0 H0 fp=>⟨(sg_tup rfl (sgs_cons (sg_name (i:=0) (show (["places","facts","edges"]:List Str).Nodup by decide +kernel) rfl (Or.inl rfl)) (sgs_cons (sg_name (i:=1) (show (["places","facts","edges"]:List Str).Nodup by decide +kernel) rfl (Or.inl rfl)) (sgs_cons (sg_name (i:=2) (show (["places","facts","edges"]:List Str).Nodup by decide +kernel) rfl (Or.inl rfl)) sgs_nil)))),sf_nil,(se_tup (sa_cons (sv 0) (sa_cons (sv 1) (sa_cons (se_v (sn_list rfl T.b_list (sa_cons (sv 2) sa_nil))) sa_nil))))⟩)) imp_q26
noncomputable def b_q13:DS:=(dSeq (dIfS (dTst (dOp (pEq false) (dOp pIx (dVar 0) (dC (.int 0))) (dC (.str "to")))) (dRet (dV dNil)) dNext)
  (dSeq (dIfS (dTst (dOp (pEq false) (dOp pIx (dVar 0) (dC (.int 0))) (dC (.str "copy")))) (dRet (dV (dCons (dOp pIx (dVar 0) (dC (.int 1))) (dCons (dOp pIx (dVar 0) (dC (.int 2))) dNil)))) dNext)
  (dSeq (dIfS (dTst (dOp (pEq false) (dOp pIx (dVar 0) (dC (.int 0))) (dC (.str "does")))) (dRet (dV (dCons (dOp pIx (dVar 0) (dC (.int 1))) (dCons (dOp pIx (dVar 0) (dC (.int 3))) (dCons (dOp pIx (dVar 0) (dC (.int 4))) dNil))))) dNext)
  (dSeq (dIfS (dTst (dOp (pEq false) (dOp pIx (dVar 0) (dC (.int 0))) (dC (.str "call")))) (dRet (dOp pPlus (dV (dCons (dOp pIx (dVar 0) (dC (.int 1))) dNil)) (dV (dListOf (dCons (dOp pIx (dVar 0) (dC (.int 3))) dNil))))) dNext)
  (dRet (dV (dCons (dOp pIx (dVar 0) (dC (.int 1))) dNil)))))))
noncomputable def labs:Rw→List Nat
 |.to _=>[]
 |.copy x y=>[x,y]
 |.does x _ y z=>[x,y,z]
 |.call x _ ys=>x :: ys
 |.num x _=>[x]
 |.dye x=>[x]
 |.wash x=>[x]
 |.ifq x _=>[x]
 |.ret x=>[x]
noncomputable def S_q13:DSp:=fun ds h Q=>∃ r:Rw,ds=[roD r]∧(labs r).length ≤ 100∧Q (.lst ((labs r).map nD)) h
theorem imp_q13:∀ ds h Q,S_q13 ds h Q→runD 1 b_q13 ds h Q:=by
 rintro ds h Q ⟨r,rfl,hl,q⟩
 delta runD b_q13;simp only [List.map_cons,List.map_nil,List.cons_append,List.nil_append,List.length_cons,List.length_nil,List.replicate,Nat.reduceSub,Nat.reduceAdd,Nat.zero_add,Nat.sub_self]
 cases r with
 |to y=>(try dsimp only);refine seq_intro fun N hN=>?_;simp only [roD,VV];exact q
 |copy x y=>(try dsimp only);refine seq_intro fun N hN=>?_;simp only [roD,VV];subst hN;(try dsimp only);refine seq_intro fun N hN=>?_;simp only [VV];exact q
 |does x o y z=>(try dsimp only);refine seq_intro fun N hN=>?_;simp only [roD,VV];subst hN;(try dsimp only);refine seq_intro fun N hN=>?_;simp only [VV];subst hN;(try dsimp only);refine seq_intro fun N hN=>?_;simp only [VV];exact q
 |call x g ys=>(try dsimp only);refine seq_intro fun N hN=>?_;simp only [roD,VV];subst hN;(try dsimp only);refine seq_intro fun N hN=>?_;simp only [VV];subst hN;(try dsimp only);refine seq_intro fun N hN=>?_;simp only [VV];subst hN;(try dsimp only);refine seq_intro fun N hN=>?_;simp only [VV];exact ⟨by have hl:ys.length + 1 ≤ 100:=hl;rw [List.length_map];omega,q⟩
 |_=>(try dsimp only);refine seq_intro fun N hN=>?_;simp only [roD,VV];subst hN;(try dsimp only);refine seq_intro fun N hN=>?_;simp only [VV];subst hN;(try dsimp only);refine seq_intro fun N hN=>?_;simp only [VV];subst hN;(try dsimp only);refine seq_intro fun N hN=>?_;simp only [VV];subst hN;simp only [VV];exact q
theorem ok_q13{f:Addr}{fd:FuncData}(F:Fun K "_law_labels" "_law_labels" s_q13 f fd)(T:Txt P w K mg):FnOk P w K mg base CX0 1 f fd ["_law_row"] (spD K 1 S_q13) :=
 fn_ok (k:=0) (b:=b_q13) F sc_q13 (fun cdv A outer s H E hr=>by
  refine ss_cons ?_ ?_
  ·refine s_if ?_ ?_ ?_
   ·exact st_cmp (ok_eq hr.units) (se_ix ok_ix (sv 0) se_int (fun _ _=>rfl)) se_str (nomark _)
   ·refine ss_one ?_
    refine s_ret ?_
    refine se_v ?_
    refine sn_lst (n:=0) ?_
    exact sa_nil
   exact ss_nil
  refine ss_cons ?_ ?_
  ·refine s_if ?_ ?_ ?_
   ·exact st_cmp (ok_eq hr.units) (se_ix ok_ix (sv 0) se_int (fun _ _=>rfl)) se_str (nomark _)
   ·refine ss_one ?_
    refine s_ret ?_
    refine se_v ?_
    refine sn_lst (n:=2) ?_
    refine sa_cons ?_ ?_
    ·exact se_ix ok_ix (sv 0) se_int (fun _ _=>rfl)
    refine sa_cons ?_ ?_
    ·exact se_ix ok_ix (sv 0) se_int (fun _ _=>rfl)
    exact sa_nil
   exact ss_nil
  refine ss_cons ?_ ?_
  ·refine s_if ?_ ?_ ?_
   ·exact st_cmp (ok_eq hr.units) (se_ix ok_ix (sv 0) se_int (fun _ _=>rfl)) se_str (nomark _)
   ·refine ss_one ?_
    refine s_ret ?_
    refine se_v ?_
    refine sn_lst (n:=3) ?_
    refine sa_cons ?_ ?_
    ·exact se_ix ok_ix (sv 0) se_int (fun _ _=>rfl)
    refine sa_cons ?_ ?_
    ·exact se_ix ok_ix (sv 0) se_int (fun _ _=>rfl)
    refine sa_cons ?_ ?_
    ·exact se_ix ok_ix (sv 0) se_int (fun _ _=>rfl)
    exact sa_nil
   exact ss_nil
  refine ss_cons ?_ ?_
  ·refine s_if ?_ ?_ ?_
   ·exact st_cmp (ok_eq hr.units) (se_ix ok_ix (sv 0) se_int (fun _ _=>rfl)) se_str (nomark _)
   ·refine ss_one ?_
    refine s_ret ?_
    exact se_op ok_plus (se_v (sn_lst (sa_cons (se_ix ok_ix (sv 0) se_int (fun _ _=>rfl)) sa_nil))) (se_v (sn_list rfl T.b_list (sa_cons (se_ix ok_ix (sv 0) se_int (fun _ _=>rfl)) sa_nil)))
   exact ss_nil
  refine ss_one ?_
  refine s_ret ?_
  refine se_v ?_
  refine sn_lst (n:=1) ?_
  refine sa_cons ?_ ?_
  ·exact se_ix ok_ix (sv 0) se_int (fun _ _=>rfl)
  exact sa_nil) imp_q13
noncomputable def b_q3:DS:=(dSeq (dIfS (dTst (dOp (pEq false) (dOp pIx (dVar 0) (dC (.int 0))) (dC (.str "return")))) (dRet (dOrV (dAndV (dOp (pEq false) (dVar 1) (dC (.int 0))) (dOp (pEq false) (dVar 2) (dC (.int 0)))) (dAndV (dOp (pEq false) (dVar 1) (dOp pPlus (dC (.int 1)) (dOp pIx (dVar 0) (dC (.int 1))))) (dOp (pEq false) (dVar 2) (dOp pSub (dVar 3) (dC (.int 1))))))) dNext)
  (dSeq (dIfS (dTst (dOp (pIn false) (dOp pIx (dVar 0) (dC (.int 0))) (dTup (dCons (dC (.str "to")) (dCons (dC (.str "if")) dNil))))) (dRet (dOp (pEq false) (dVar 1) (dVar 2))) dNext)
  (dSeq (dAsg (dOp pPlus (dC (.int 1)) (dOp pIx (dVar 0) (dC (.int 1)))) (dName 4))
  (dSeq (dIfS (dTst (dOp (pEq false) (dOp pIx (dVar 0) (dC (.int 0))) (dC (.str "dye")))) (dRet (dOrV (dOp (pEq false) (dVar 1) (dVar 2)) (dAndV (dOp (pEq false) (dVar 1) (dC (.int 0))) (dOp (pEq false) (dVar 2) (dVar 4))))) dNext)
  (dSeq (dIfS (dTst (dOp (pEq true) (dVar 2) (dVar 4))) (dRet (dOp (pEq false) (dVar 1) (dVar 2))) dNext)
  (dSeq (dIfS (dTst (dOp (pEq false) (dOp pIx (dVar 0) (dC (.int 0))) (dC (.str "copy")))) (dRet (dOp (pEq false) (dVar 1) (dOp pPlus (dC (.int 1)) (dOp pIx (dVar 0) (dC (.int 2)))))) dNext)
  (dRet (dAndV (dOp (pEq false) (dOp pIx (dVar 0) (dC (.int 0))) (dC (.str "does"))) (dOp (pIn false) (dVar 1) (dTup (dCons (dOp pPlus (dC (.int 1)) (dOp pIx (dVar 0) (dC (.int 3)))) (dCons (dOp pPlus (dC (.int 1)) (dOp pIx (dVar 0) (dC (.int 4)))) dNil))))))))))))
noncomputable def brB(n:Nat)(r:Rw)(one other:Nat):Bool:=match r with
 |.ret x=>(decide (one=0) && decide (other=0)) || (decide (one=1 + x) && decide (other + 1=n))
 |.to _=>decide (one=other)
 |.ifq _ _=>decide (one=other)
 |.dye x=>decide (one=other) || (decide (one=0) && decide (other=1 + x))
 |.copy x y=>if other=1 + x then decide (one=1 + y) else decide (one=other)
 |.does x _ y z=>if other=1 + x then decide (one=1 + y) || decide (one=1 + z) else decide (one=other)
 |r=>if other=1 + tgt r then false else decide (one=other)
noncomputable def S_q3:DSp:=fun ds h Q=>∃ (r:Rw) (n one other:Nat),ds=[roD r,.int one,.int other,.int n]∧Q (.bl (brB n r one other)) h
theorem imp_q3:∀ ds h Q,S_q3 ds h Q→runD 5 b_q3 ds h Q:=by
 rintro ds h Q ⟨r,n,one,other,rfl,q⟩
 have tf:[D.str (Str.ofString "to"),D.str (Str.ofString "if")]=toIf:=rfl
 delta runD b_q3;simp only [List.map_cons,List.map_nil,List.cons_append,List.nil_append,List.length_cons,List.length_nil,List.replicate,Nat.reduceSub,Nat.reduceAdd,Nat.zero_add,Nat.sub_self]
 cases r with
 |ret x =>
  (try dsimp only);refine seq_intro fun N hN=>?_
  simp only [roD,beq0,beqP,beq1p,VV]
  have q:Q (.bl ((decide (one=0) && decide (other=0)) || (decide (one=1 + x) && decide (other + 1=n)))) h:=q
  cases h1:decide (one=0) <;> cases h2:decide (other=0) <;> cases h3:decide (one=1 + x) <;> (rw [h1,h2,h3] at q;simp only [VV];exact q)
 |to y =>
  (try dsimp only);refine seq_intro fun N hN=>?_
  simp only [roD,VV]
  subst hN
  (try dsimp only);refine seq_intro fun N hN=>?_
  simp only [tf,ti_to,beqN,VV]
  exact ⟨rfl,q⟩
 |ifq x y =>
  (try dsimp only);refine seq_intro fun N hN=>?_
  simp only [roD,VV]
  subst hN
  (try dsimp only);refine seq_intro fun N hN=>?_
  simp only [tf,ti_if,beqN,VV]
  exact ⟨rfl,q⟩
 |dye x =>
  (try dsimp only);refine seq_intro fun N hN=>?_
  simp only [roD,VV]
  subst hN
  (try dsimp only);refine seq_intro fun N hN=>?_
  simp only [tf,ti_dye,VV]
  refine ⟨rfl,?_⟩
  subst hN
  (try dsimp only);refine seq_intro fun N hN=>?_
  simp only [VV]
  subst hN
  (try dsimp only);refine seq_intro fun N hN=>?_
  simp only [beqN,beq0,beq1p,VV]
  have q:Q (.bl (decide (one=other) || (decide (one=0) && decide (other=1 + x)))) h:=q
  cases h1:decide (one=other) <;> cases h2:decide (one=0) <;> (rw [h1,h2] at q;simp only [VV];exact q)
 |copy x y =>
  have q:Q (.bl (if other=1 + x then decide (one=1 + y) else decide (one=other))) h:=q
  (try dsimp only);refine seq_intro fun N hN=>?_
  simp only [roD,VV]
  subst hN
  (try dsimp only);refine seq_intro fun N hN=>?_
  simp only [tf,ti_copy,VV]
  refine ⟨rfl,?_⟩
  subst hN
  (try dsimp only);refine seq_intro fun N hN=>?_
  simp only [VV]
  subst hN
  (try dsimp only);refine seq_intro fun N hN=>?_
  simp only [VV]
  subst hN
  (try dsimp only);refine seq_intro fun N hN=>?_
  simp only [beqN,beq1p,VV]
  by_cases z:other=1 + x
  ·rw [if_pos z] at q
   rw [decide_eq_true z]
   simp only [VV]
   subst hN
   (try dsimp only);refine seq_intro fun N hN=>?_
   simp only [beq1p,VV]
   exact q
  ·rw [if_neg z] at q
   rw [decide_eq_false z]
   simp only [VV]
   exact q
 |does x o y z2 =>
  have q:Q (.bl (if other=1 + x then decide (one=1 + y) || decide (one=1 + z2) else decide (one=other))) h:=q
  (try dsimp only);refine seq_intro fun N hN=>?_
  simp only [roD,VV]
  subst hN
  (try dsimp only);refine seq_intro fun N hN=>?_
  simp only [tf,ti_does,VV]
  refine ⟨rfl,?_⟩
  subst hN
  (try dsimp only);refine seq_intro fun N hN=>?_
  simp only [VV]
  subst hN
  (try dsimp only);refine seq_intro fun N hN=>?_
  simp only [VV]
  subst hN
  (try dsimp only);refine seq_intro fun N hN=>?_
  simp only [beqN,beq1p,VV]
  by_cases z:other=1 + x
  ·rw [if_pos z] at q
   rw [decide_eq_true z]
   simp only [VV]
   subst hN
   (try dsimp only);refine seq_intro fun N hN=>?_
   simp only [VV]
   subst hN
   simp only [inF_two1,VV]
   exact ⟨rfl,q⟩
  ·rw [if_neg z] at q
   rw [decide_eq_false z]
   simp only [VV]
   exact q
 |num x k =>
  have q:Q (.bl (if other=1 + x then false else decide (one=other))) h:=q
  (try dsimp only);refine seq_intro fun N hN=>?_
  simp only [roD,VV]
  subst hN
  (try dsimp only);refine seq_intro fun N hN=>?_
  simp only [tf,ti_number,VV]
  refine ⟨rfl,?_⟩
  subst hN
  (try dsimp only);refine seq_intro fun N hN=>?_
  simp only [VV]
  subst hN
  (try dsimp only);refine seq_intro fun N hN=>?_
  simp only [VV]
  subst hN
  (try dsimp only);refine seq_intro fun N hN=>?_
  simp only [beqN,beq1p,VV]
  by_cases z:other=1 + x
  ·rw [if_pos z] at q
   rw [decide_eq_true z]
   simp only [VV]
   subst hN
   (try dsimp only);refine seq_intro fun N hN=>?_
   simp only [VV]
   subst hN
   simp only [VV]
   exact q
  ·rw [if_neg z] at q
   rw [decide_eq_false z]
   simp only [VV]
   exact q
 |wash x =>
  have q:Q (.bl (if other=1 + x then false else decide (one=other))) h:=q
  (try dsimp only);refine seq_intro fun N hN=>?_
  simp only [roD,VV]
  subst hN
  (try dsimp only);refine seq_intro fun N hN=>?_
  simp only [tf,ti_wash,VV]
  refine ⟨rfl,?_⟩
  subst hN
  (try dsimp only);refine seq_intro fun N hN=>?_
  simp only [VV]
  subst hN
  (try dsimp only);refine seq_intro fun N hN=>?_
  simp only [VV]
  subst hN
  (try dsimp only);refine seq_intro fun N hN=>?_
  simp only [beqN,beq1p,VV]
  by_cases z:other=1 + x
  ·rw [if_pos z] at q
   rw [decide_eq_true z]
   simp only [VV]
   subst hN
   (try dsimp only);refine seq_intro fun N hN=>?_
   simp only [VV]
   subst hN
   simp only [VV]
   exact q
  ·rw [if_neg z] at q
   rw [decide_eq_false z]
   simp only [VV]
   exact q
 |call x g ys =>
  have q:Q (.bl (if other=1 + x then false else decide (one=other))) h:=q
  (try dsimp only);refine seq_intro fun N hN=>?_
  simp only [roD,VV]
  subst hN
  (try dsimp only);refine seq_intro fun N hN=>?_
  simp only [tf,ti_call,VV]
  refine ⟨rfl,?_⟩
  subst hN
  (try dsimp only);refine seq_intro fun N hN=>?_
  simp only [VV]
  subst hN
  (try dsimp only);refine seq_intro fun N hN=>?_
  simp only [VV]
  subst hN
  (try dsimp only);refine seq_intro fun N hN=>?_
  simp only [beqN,beq1p,VV]
  by_cases z:other=1 + x
  ·rw [if_pos z] at q
   rw [decide_eq_true z]
   simp only [VV]
   subst hN
   (try dsimp only);refine seq_intro fun N hN=>?_
   simp only [VV]
   subst hN
   simp only [VV]
   exact q
  ·rw [if_neg z] at q
   rw [decide_eq_false z]
   simp only [VV]
   exact q
theorem ok_q3{f:Addr}{fd:FuncData}(F:Fun K "_law_brings" "_law_brings" s_q3 f fd)(T:Txt P w K mg):FnOk P w K mg base CX0 1 f fd ["_law_row","_law_one","_law_other","_law_many"] (spD K 4 S_q3) :=
 fn_ok (k:=0) (b:=b_q3) F sc_q3 (fun cdv A outer s H E hr=>by
  refine ss_cons ?_ ?_
  ·refine s_if ?_ ?_ ?_
   ·exact st_cmp (ok_eq hr.units) (se_ix ok_ix (sv 0) se_int (fun _ _=>rfl)) se_str (nomark _)
   ·refine ss_one ?_
    refine s_ret ?_
    exact se_or (se_and (se_cmp (ok_eq hr.units) (sv 1) se_int (nomark _)) (se_one (se_cmp (ok_eq hr.units) (sv 2) se_int (nomark _)))) (se_one (se_and (se_cmp (ok_eq hr.units) (sv 1) (se_op ok_plus se_int (se_ix ok_ix (sv 0) se_int (fun _ _=>rfl))) (nomark _)) (se_one (se_cmp (ok_eq hr.units) (sv 2) (se_op ok_sub (sv 3) se_int) (nomark _)))))
   exact ss_nil
  refine ss_cons ?_ ?_
  ·refine s_if ?_ ?_ ?_
   ·exact st_cmp ok_in (se_ix ok_ix (sv 0) se_int (fun _ _=>rfl)) (se_tup (sa_cons se_str (sa_cons se_str sa_nil))) rfl
   ·refine ss_one ?_
    refine s_ret ?_
    exact se_cmp (ok_eq hr.units) (sv 1) (sv 2) (nomark _)
   exact ss_nil
  refine ss_cons ?_ ?_
  ·refine s_set (i:=4) ?_ ?_ ?_ ?_
   ·exact sc_q3.nd
   ·exact rfl
   ·exact Or.inl rfl
   exact se_op ok_plus se_int (se_ix ok_ix (sv 0) se_int (fun _ _=>rfl))
  refine ss_cons ?_ ?_
  ·refine s_if ?_ ?_ ?_
   ·exact st_cmp (ok_eq hr.units) (se_ix ok_ix (sv 0) se_int (fun _ _=>rfl)) se_str (nomark _)
   ·refine ss_one ?_
    refine s_ret ?_
    exact se_or (se_cmp (ok_eq hr.units) (sv 1) (sv 2) (nomark _)) (se_one (se_and (se_cmp (ok_eq hr.units) (sv 1) se_int (nomark _)) (se_one (se_cmp (ok_eq hr.units) (sv 2) (sv 4) (nomark _)))))
   exact ss_nil
  refine ss_cons ?_ ?_
  ·refine s_if ?_ ?_ ?_
   ·exact st_cmp (ok_ne hr.units) (sv 2) (sv 4) (nomark _)
   ·refine ss_one ?_
    refine s_ret ?_
    exact se_cmp (ok_eq hr.units) (sv 1) (sv 2) (nomark _)
   exact ss_nil
  refine ss_cons ?_ ?_
  ·refine s_if ?_ ?_ ?_
   ·exact st_cmp (ok_eq hr.units) (se_ix ok_ix (sv 0) se_int (fun _ _=>rfl)) se_str (nomark _)
   ·refine ss_one ?_
    refine s_ret ?_
    exact se_cmp (ok_eq hr.units) (sv 1) (se_op ok_plus se_int (se_ix ok_ix (sv 0) se_int (fun _ _=>rfl))) (nomark _)
   exact ss_nil
  refine ss_one ?_
  refine s_ret ?_
  exact se_and (se_cmp (ok_eq hr.units) (se_ix ok_ix (sv 0) se_int (fun _ _=>rfl)) se_str (nomark _)) (se_one (se_cmp ok_in (sv 1) (se_tup (sa_cons (se_op ok_plus se_int (se_ix ok_ix (sv 0) se_int (fun _ _=>rfl))) (sa_cons (se_op ok_plus se_int (se_ix ok_ix (sv 0) se_int (fun _ _=>rfl))) sa_nil))) rfl))) imp_q3
noncomputable def b_q10:DS:=(dSeq (dIfS (dTst (dOp (pEq false) (dVar 2) (dC (.int 0)))) (dRet (dOp (pEq false) (dVar 1) (dC (.int 0)))) dNext)
  (dRet (dAndV (dOp pLe (dVar 2) (dCB pLen (dCons (dOp pIx (dVar 0) (dC (.int 3))) dNil))) (dOp (pEq false) (dVar 1) (dOp pPlus (dC (.int 1)) (dOp pIx (dOp pIx (dVar 0) (dC (.int 3))) (dOp pSub (dVar 2) (dC (.int 1)))))))))
noncomputable def intoB(ys:List Nat)(one other:Nat):Bool:=if other=0 then decide (one=0) else decide (other ≤ ys.length) && decide (one=1 + ys.getD (other - 1) 0)
noncomputable def S_q10:DSp:=fun ds h Q=>∃ (x g:Nat) (ys:List Nat) (one other:Nat),ds=[roD (.call x g ys),.int one,.int other]∧Q (.bl (intoB ys one other)) h
theorem imp_q10:∀ ds h Q,S_q10 ds h Q→runD 3 b_q10 ds h Q:=by
 rintro ds h Q ⟨x,g,ys,one,other,rfl,q⟩
 unfold intoB at q
 delta runD b_q10;simp only [List.map_cons,List.map_nil,List.cons_append,List.nil_append,List.length_cons,List.length_nil,List.replicate,Nat.reduceSub,Nat.reduceAdd,Nat.zero_add,Nat.sub_self]
 (try dsimp only);refine seq_intro fun N hN=>?_
 simp only [beq0,VV]
 by_cases z:other=0
 ·rw [if_pos z] at q
  simp only [z,VV]
  exact q
 ·rw [if_neg z] at q
  have z2:decide (other=0)=false:=decide_eq_false z
  simp only [z2,VV]
  subst hN
  simp only [roD,List.length_map,VV]
  by_cases l:other ≤ ys.length
  ·have l2:((other:Int) ≤ (ys.length:Int)):=by first | decide | omega
   have ix:atI (ys.map nD) ((other:Int) - 1)=some (nD (ys.getD (other - 1) 0)):=by
    rw [show (other:Int) - 1=((other - 1:Nat):Int) by first | decide | omega,atN,List.getElem?_map,List.getD_eq_getElem?_getD,List.getElem?_eq_getElem (by first | decide | omega)];rfl
   rw [decide_eq_true l,Bool.true_and] at q
   simp only [l2,ix,beq1p,VV]
   exact q
  ·have l2:¬ ((other:Int) ≤ (ys.length:Int)):=by first | decide | omega
   rw [decide_eq_false l,Bool.false_and] at q
   simp only [l2,VV]
   exact q
theorem ok_q10{f:Addr}{fd:FuncData}(F:Fun K "_law_into" "_law_into" s_q10 f fd)(T:Txt P w K mg):FnOk P w K mg base CX0 1 f fd ["_law_row","_law_one","_law_other"] (spD K 3 S_q10) :=
 fn_ok (k:=0) (b:=b_q10) F sc_q10 (fun cdv A outer s H E hr=>by
  refine ss_cons ?_ ?_
  ·refine s_if ?_ ?_ ?_
   ·exact st_cmp (ok_eq hr.units) (sv 2) se_int (nomark _)
   ·refine ss_one ?_
    refine s_ret ?_
    exact se_cmp (ok_eq hr.units) (sv 1) se_int (nomark _)
   exact ss_nil
  refine ss_one ?_
  refine s_ret ?_
  exact se_and (se_cmp ok_le (sv 2) (se_callB ok_len rfl T.b_len PySem.boot_len (sa_cons (se_ix ok_ix (sv 0) se_int (fun _ _=>rfl)) sa_nil)) (nomark _)) (se_one (se_cmp (ok_eq hr.units) (sv 1) (se_op ok_plus se_int (se_ix ok_ix (se_ix ok_ix (sv 0) se_int (fun _ _=>rfl)) (se_op ok_sub (sv 2) se_int) (fun _ _=>rfl))) (nomark _)))) imp_q10
noncomputable def b_q1:DS:=(dRet (dOrV (dAndV (dOp (pEq false) (dVar 1) (dC (.int 0))) (dOp (pEq false) (dVar 2) (dC (.int 0)))) (dAndV (dOp (pEq false) (dVar 1) (dOp pSub (dVar 3) (dC (.int 1)))) (dOp (pEq false) (dVar 2) (dOp pPlus (dC (.int 1)) (dOp pIx (dVar 0) (dC (.int 1))))))))
noncomputable def backB(x n one other:Nat):Bool:=(decide (one=0) && decide (other=0)) || (decide (one + 1=n) && decide (other=1 + x))
noncomputable def S_q1:DSp:=fun ds h Q=>∃ (x g:Nat) (ys:List Nat) (n one other:Nat),ds=[roD (.call x g ys),.int one,.int other,.int n]∧Q (.bl (backB x n one other)) h
theorem imp_q1:∀ ds h Q,S_q1 ds h Q→runD 4 b_q1 ds h Q:=by
 rintro ds h Q ⟨x,g,ys,n,one,other,rfl,q⟩
 unfold backB at q
 delta runD b_q1;simp only [List.map_cons,List.map_nil,List.cons_append,List.nil_append,List.length_cons,List.length_nil,List.replicate,Nat.reduceSub,Nat.reduceAdd,Nat.zero_add,Nat.sub_self]
 simp only [roD,beq0,beqP,beq1p,VV]
 cases h1:decide (one=0) <;> cases h2:decide (other=0) <;> cases h3:decide (one + 1=n) <;> (rw [h1,h2,h3] at q;simp only [VV];exact q)
theorem ok_q1{f:Addr}{fd:FuncData}(F:Fun K "_law_back" "_law_back" s_q1 f fd)(T:Txt P w K mg):FnOk P w K mg base CX0 1 f fd ["_law_row","_law_one","_law_other","_law_theirs"] (spD K 4 S_q1) :=
 fn_ok (k:=0) (b:=b_q1) F sc_q1 (fun cdv A outer s H E hr=>by
  refine ss_one ?_
  refine s_ret ?_
  exact se_or (se_and (se_cmp (ok_eq hr.units) (sv 1) se_int (nomark _)) (se_one (se_cmp (ok_eq hr.units) (sv 2) se_int (nomark _)))) (se_one (se_and (se_cmp (ok_eq hr.units) (sv 1) (se_op ok_sub (sv 3) se_int) (nomark _)) (se_one (se_cmp (ok_eq hr.units) (sv 2) (se_op ok_plus se_int (se_ix ok_ix (sv 0) se_int (fun _ _=>rfl))) (nomark _)))))) imp_q1
noncomputable def b_q15:DS:=(dRet (dAndV (dOp (pEq false) (dVar 1) (dVar 2)) (dOp (pIn true) (dVar 1) (dTup (dCons (dC (.int 0)) (dCons (dOp pPlus (dC (.int 1)) (dOp pIx (dVar 0) (dC (.int 1)))) dNil))))))
noncomputable def overB(x one other:Nat):Bool:=decide (one=other) && !(decide (one=0) || decide (one=1 + x))
noncomputable def S_q15:DSp:=fun ds h Q=>∃ (x g:Nat) (ys:List Nat) (one other:Nat),ds=[roD (.call x g ys),.int one,.int other]∧Q (.bl (overB x one other)) h
theorem imp_q15:∀ ds h Q,S_q15 ds h Q→runD 3 b_q15 ds h Q:=by
 rintro ds h Q ⟨x,g,ys,one,other,rfl,q⟩
 have hin:inF (.int (one:Int)) [.int 0,.int (1 + (x:Int))]=(decide (one=0) || decide (one=1 + x)):=by
  rw [show (1 + (x:Int))=((1 + x:Nat):Int) by first | decide | omega]
  exact inF_two one 0 (1 + x)
 unfold overB at q
 delta runD b_q15;simp only [List.map_cons,List.map_nil,List.cons_append,List.nil_append,List.length_cons,List.length_nil,List.replicate,Nat.reduceSub,Nat.reduceAdd,Nat.zero_add,Nat.sub_self]
 simp only [roD,beqN,hin,VV]
 refine iteB (fun z=>?_) (fun z=>?_)
 ·rw [z,Bool.true_and] at q
  exact ⟨rfl,q⟩
 ·rw [z,Bool.false_and] at q
  exact q
theorem ok_q15{f:Addr}{fd:FuncData}(F:Fun K "_law_over" "_law_over" s_q15 f fd)(T:Txt P w K mg):FnOk P w K mg base CX0 1 f fd ["_law_row","_law_one","_law_other"] (spD K 3 S_q15) :=
 fn_ok (k:=0) (b:=b_q15) F sc_q15 (fun cdv A outer s H E hr=>by
  refine ss_one ?_
  refine s_ret ?_
  exact se_and (se_cmp (ok_eq hr.units) (sv 1) (sv 2) (nomark _)) (se_one (se_cmp ok_notin (sv 1) (se_tup (sa_cons se_int (sa_cons (se_op ok_plus se_int (se_ix ok_ix (sv 0) se_int (fun _ _=>rfl))) sa_nil))) rfl))) imp_q15
noncomputable def b_q8:DS:=(dSeq (dIfS (dTst (dOp (pEq false) (dOp pIx (dVar 0) (dC (.int 0))) (dC (.str "to")))) (dRet (dV (dCons (dOp pIx (dVar 0) (dC (.int 1))) dNil))) dNext)
  (dSeq (dIfS (dTst (dOp (pEq false) (dOp pIx (dVar 0) (dC (.int 0))) (dC (.str "if")))) (dRet (dV (dCons (dOp pPlus (dVar 1) (dC (.int 1))) (dCons (dOp pIx (dVar 0) (dC (.int 2))) dNil)))) dNext)
  (dSeq (dIfS (dTst (dOp (pEq false) (dOp pIx (dVar 0) (dC (.int 0))) (dC (.str "return")))) (dRet (dV (dCons (dCB pLen (dCons (dVar 2) dNil)) dNil))) dNext)
  (dRet (dV (dCons (dOp pPlus (dVar 1) (dC (.int 1))) dNil))))))
noncomputable def S_q8:DSp:=fun ds h Q=>∃ (r:Rw) (p:Nat) (rs:List Rw),ds=[roD r,.int p,.tup (rs.map roD)]∧Q (.lst ((behind p r rs.length).map nD)) h
theorem imp_q8:∀ ds h Q,S_q8 ds h Q→runD 3 b_q8 ds h Q:=by
 rintro ds h Q ⟨r,p,rs,rfl,q⟩
 delta runD b_q8;simp only [List.map_cons,List.map_nil,List.cons_append,List.nil_append,List.length_cons,List.length_nil,List.replicate,Nat.reduceSub,Nat.reduceAdd,Nat.zero_add,Nat.sub_self]
 cases r with
 |to y=>(try dsimp only);refine seq_intro fun N hN=>?_;simp only [roD,VV];exact q
 |ifq x y=>(try dsimp only);refine seq_intro fun N hN=>?_;simp only [roD,VV];subst hN;(try dsimp only);refine seq_intro fun N hN=>?_;simp only [VV];exact q
 |ret x=>(try dsimp only);refine seq_intro fun N hN=>?_;simp only [roD,VV];subst hN;(try dsimp only);refine seq_intro fun N hN=>?_;simp only [VV];subst hN;(try dsimp only);refine seq_intro fun N hN=>?_;simp only [List.length_map,VV];exact q
 |_=>(try dsimp only);refine seq_intro fun N hN=>?_;simp only [roD,VV];subst hN;(try dsimp only);refine seq_intro fun N hN=>?_;simp only [VV];subst hN;(try dsimp only);refine seq_intro fun N hN=>?_;simp only [VV];subst hN;simp only [VV];exact q
theorem ok_q8{f:Addr}{fd:FuncData}(F:Fun K "_law_ends" "_law_ends" s_q8 f fd)(T:Txt P w K mg):FnOk P w K mg base CX0 1 f fd ["_law_row","_law_place","_law_rows"] (spD K 3 S_q8) :=
 fn_ok (k:=0) (b:=b_q8) F sc_q8 (fun cdv A outer s H E hr=>by
  refine ss_cons ?_ ?_
  ·refine s_if ?_ ?_ ?_
   ·exact st_cmp (ok_eq hr.units) (se_ix ok_ix (sv 0) se_int (fun _ _=>rfl)) se_str (nomark _)
   ·refine ss_one ?_
    refine s_ret ?_
    refine se_v ?_
    refine sn_lst (n:=1) ?_
    refine sa_cons ?_ ?_
    ·exact se_ix ok_ix (sv 0) se_int (fun _ _=>rfl)
    exact sa_nil
   exact ss_nil
  refine ss_cons ?_ ?_
  ·refine s_if ?_ ?_ ?_
   ·exact st_cmp (ok_eq hr.units) (se_ix ok_ix (sv 0) se_int (fun _ _=>rfl)) se_str (nomark _)
   ·refine ss_one ?_
    refine s_ret ?_
    refine se_v ?_
    refine sn_lst (n:=2) ?_
    refine sa_cons ?_ ?_
    ·exact se_op ok_plus (sv 1) se_int
    refine sa_cons ?_ ?_
    ·exact se_ix ok_ix (sv 0) se_int (fun _ _=>rfl)
    exact sa_nil
   exact ss_nil
  refine ss_cons ?_ ?_
  ·refine s_if ?_ ?_ ?_
   ·exact st_cmp (ok_eq hr.units) (se_ix ok_ix (sv 0) se_int (fun _ _=>rfl)) se_str (nomark _)
   ·refine ss_one ?_
    refine s_ret ?_
    refine se_v ?_
    refine sn_lst (n:=1) ?_
    refine sa_cons ?_ ?_
    ·exact se_callB ok_len rfl T.b_len PySem.boot_len (sa_cons (sv 2) sa_nil)
    exact sa_nil
   exact ss_nil
  refine ss_one ?_
  refine s_ret ?_
  refine se_v ?_
  refine sn_lst (n:=1) ?_
  refine sa_cons ?_ ?_
  ·exact se_op ok_plus (sv 1) se_int
  exact sa_nil) imp_q8
noncomputable def b_q5:DS:=(dRet (dV (dComp [none,some 0] (dIRange (dCons (dVar 1) (dCons (dCB pMin (dCons (dCB pLen (dCons (dVar 0) dNil)) (dCons (dOp pPlus (dVar 1) (dVar 2)) dNil))) dNil))) (dName 0) dNoIf (dCal S_q4 (dCons (dVar 1) (dCons (dVar 0) dNil))))))
noncomputable def S_q5:DSp:=fun ds h Q=>∃ (ns:List Int) (a b:Nat),ds=[.scr (ns.map .int),.int a,.int b]∧ns.length ≤ 63∧(∀ x ∈ ns,Builtin.Int.intBits x ≤ 1048576)∧a ≤ 100∧b ≤ 100∧∀ cs:List Int,cs.length ≤ b→Q (.lst (cs.map D.int)) h
theorem imp_q5:∀ ds h Q,S_q5 ds h Q→runD 3 b_q5 ds h Q:=by
 rintro ds h Q ⟨ns,a,b,rfl,hl,hb,ha,hb2,q⟩
 delta runD b_q5;simp only [List.map_cons,List.map_nil,List.cons_append,List.nil_append,List.length_cons,List.length_nil,List.replicate,Nat.reduceSub,Nat.reduceAdd,Nat.zero_add,Nat.sub_self]
 simp only [List.length_map,VV]
 obtain ⟨m,mn,m1,m2⟩:∃ m:Nat,(if ((a:Int) + (b:Int)) < (ns.length:Int) then ((a:Int) + (b:Int)) else (ns.length:Int))=(m:Int)∧m ≤ a + b∧m ≤ 63:=by
  by_cases z:((a:Int) + (b:Int)) < (ns.length:Int)
  ·exact ⟨a + b,by rw [if_pos z];omega,by first | decide | omega,by first | decide | omega⟩
  ·exact ⟨ns.length,by rw [if_neg z],by first | decide | omega,hl⟩
 rw [mn]
 refine ⟨⟨by first | decide | omega,by first | decide | omega,by first | decide | omega,by first | decide | omega⟩,by rw [rangeD_length];omega,?_⟩
 rw [rangeD_map]
 refine compL_map (fun p a' δ h'=>h'=h∧(∃ o,δ=[o,some (.scr (ns.map D.int))])∧∃ vs:List Int,a'=vs.map D.int∧vs.length=p.length) ⟨rfl,⟨_,rfl⟩,[],rfl,rfl⟩ (fun _ _ _ _ _=>Src.ok_nil) ?_ ?_
 ·rintro p y r acc δ h' N e ⟨rfl,⟨o,rfl⟩,vs,rfl,lv⟩ hN
  obtain ⟨rfl,hy⟩:=range_split e
  simp only [VV]
  refine ⟨ns,a + p.length,by rw [Int.natCast_add],hl,hb,by first | decide | omega,fun r=>?_⟩
  exact hN _ _ _ ⟨rfl,⟨_,rfl⟩,vs ++ [r],by rw [List.map_append];rfl,by simp [lv]⟩
 ·rintro a' δ h' ⟨rfl,_,vs,rfl,lv⟩
  rw [List.length_range] at lv
  exact q vs (by first | decide | omega)
theorem ok_q5{f:Addr}{fd:FuncData}(F:Fun K "_law_cells" "_law_cells" s_q5 f fd)(T:Txt P w K mg)(C_q4:Cal P w K mg base 1 "_law_cell_at" ["_law_script","_law_k"] (spD K 2 S_q4)):FnOk P w K mg base CX0 2 f fd ["_law_script","_law_first","_law_most"] (spD K 3 S_q5) :=
 fn_ok (k:=1) (b:=b_q5) F sc_q5 (fun cdv A outer s H E hr=>by
  refine ss_one ?_
  refine s_ret ?_
  refine se_v ?_
  exact sn_comp rfl (N':= ["_law_k","_law_script"]) (js:=[none,some 0]) ⟨rfl,by decide +kernel,rfl,rfl,rfl⟩ (si_range2 rfl T.b_range (sa_cons (sv 1) (sa_cons (se_callB (ok_min rfl) rfl T.b_min PyProof.Rows.boot_min (sa_cons (se_callB ok_len rfl T.b_len PySem.boot_len (sa_cons (sv 0) sa_nil)) (sa_cons (se_op ok_plus (sv 1) (sv 2)) sa_nil))) sa_nil))) (fun s0 H0 fp=>⟨(sg_name (i:=0) (show (["_law_k","_law_script"]:List Str).Nodup by decide +kernel) rfl (Or.inl rfl)),sf_nil,(se_cal C_q4 (hr.mono (by decide)) rfl (sa_cons (sv 1) (sa_cons (sv 0) sa_nil)))⟩)) imp_q5
noncomputable def b_q23:DS:=(dSeq (dAsg (dTk dNil) (dName 1))
  (dSeq (dFor (dIEnum (dCons (dVar 0) dNil)) (dUnp 2 (dGCons (dName 2) (dGCons (dName 3) dGNil))) (dSeq (dAsg (dTk dNil) (dName 4))
  (dSeq (dFor (dIEnum (dCons (dOp pIx (dVar 3) (dC (.int 3))) dNil)) (dUnp 2 (dGCons (dName 5) (dGCons (dName 6) dGNil))) (dDrop (dExtend (dVar 4) (dCons (dCal S_q33 (dCons (dVar 0) (dCons (dVar 2) (dCons (dVar 5) (dCons (dVar 6) dNil))))) dNil))))
  (dDrop (dAppend (dVar 1) (dCons (dTup (dCons (dOp pPlus (dCB pLen (dCons (dOp pIx (dVar 3) (dC (.int 3))) dNil)) (dC (.int 1))) (dCons (dCal S_q29 (dCons (dVar 3) dNil)) (dCons (dVar 4) dNil)))) dNil))))))
  (dRet (dVar 1))))
noncomputable def fnE(P:List Fu)(F:Fu):List Edge:=F.rows.zipIdx.flatMap fun x=>rowE P F x.2 x.1
noncomputable def chartQ(P fs:List Fu):Chart:=fs.map fun F=>⟨F.rows.length + 1,F.vars.length + 2,fnE P F⟩
structure PrOk(P:List Fu):Prop where
 six:P.length ≤ 6
 vars:∀ F ∈ P,F.vars.length ≤ 4
 rows:∀ F ∈ P,F.rows.length ≤ 9
 ok:∀ F ∈ P,∀ r ∈ F.rows,rowOk P F r
noncomputable def tops(n:Nat)(C:Chart):List D:=C.zipIdx.map fun x=>.tup [nD x.1.places,nD x.1.facts,.ref (n + 1 + x.2)]
noncomputable def fE(F:Fn):O:=.lst (F.edges.map eD)
noncomputable def chO(n:Nat)(C:Chart):Hh:=.lst (tops n C) :: C.map fE
theorem rowE_len(P:List Fu)(F:Fu)(p:Nat)(r:Rw):(rowE P F p r).length ≤ 2:=by
 cases r <;> exact Nat.le_of_ble_eq_true rfl
theorem flat_len{α β:Type}(f:α→List β)(k:Nat)(hf:∀ x,(f x).length ≤ k)(l:List α):(l.flatMap f).length ≤ k * l.length:=by
 induction l with
 |nil=>exact Nat.zero_le _
 |cons a r ih =>
  rw [List.flatMap_cons,List.length_append,List.length_cons,Nat.mul_succ]
  have:=hf a
  omega
theorem zip_at{α:Type}{l:List α}{p:List (α×Nat)}{x:α}{i:Nat}{r:List (α×Nat)}(e:l.zipIdx=p ++ (x,i) :: r):i=p.length∧l[p.length]?=some x:=by
 have:l.zipIdx[p.length]?=some (x,i):=by rw [e];simp
 rw [List.getElem?_zipIdx] at this
 cases z:l[p.length]? with
 |none=>rw [z] at this;cases this
 |some y=>rw [z] at this;cases this;exact ⟨by simp,rfl⟩
theorem tops_snoc(n:Nat)(C:Chart)(F:Fn):tops n (C ++ [F])=tops n C ++ [.tup [nD F.places,nD F.facts,.ref (n + 1 + C.length)]]:=by
 unfold tops
 rw [List.zipIdx_append,List.map_append];simp
noncomputable def S_q23:DSp:=fun ds h Q=>∃ P:List Fu,ds=[.lst (P.map fuD)]∧PrOk P∧Q (.ref h.length) (h ++ chO h.length (chartQ P P))
theorem imp_q23:∀ ds h Q,S_q23 ds h Q→runD 7 b_q23 ds h Q:=by
 rintro ds h Q ⟨P,rfl,ok,q⟩
 delta runD b_q23;simp only [List.map_cons,List.map_nil,List.cons_append,List.nil_append,List.length_cons,List.length_nil,List.replicate,Nat.reduceSub,Nat.reduceAdd,Nat.zero_add,Nat.sub_self]
 (try dsimp only);refine seq_intro fun N hN=>?_
 simp only [VV]
 subst hN
 (try dsimp only);refine seq_intro fun N hN=>?_
 simp only [VV]
 rw [enumD_map]
 refine forL_map (fun p δ h'=>∃ (x2 x3 x4 x5 x6:Option D),δ=[some (.lst (P.map fuD)),some (.ref h.length),x2,x3,x4,x5,x6]∧h'=h ++ chO h.length (chartQ P (p.map (·.1)))) ⟨none,none,none,none,none,rfl,rfl⟩ (fun _ _ _ _=>Src.ok_nil) ?_ ?_
 ·rintro p ⟨F,i⟩ r δ h' N1 e ⟨x2,x3,x4,x5,x6,rfl,rfl⟩ hN1
  obtain ⟨hi,hF⟩:=zip_at e
  have mF:=List.mem_of_getElem? hF
  have pl:p.length < P.length:=(List.getElem?_eq_some_iff.mp hF).1
  have s6:=ok.six
  have v4:=ok.vars F mF
  have r9:=ok.rows F mF
  simp only [VV]
  refine ⟨trivial,?_⟩
  (try dsimp only);refine seq_intro fun N hN=>?_
  simp only [VV]
  subst hN
  (try dsimp only);refine seq_intro fun N hN=>?_
  generalize hC:chartQ P (p.map (·.1))=C
  have cl:C.length=p.length:=by rw [← hC];unfold chartQ;simp
  have hl:List.length (h ++ chO h.length C)=h.length + 1 + C.length:=by unfold chO;simp;omega
  simp only [fuD,VV]
  rw [enumD_map]
  refine forL_map (fun p' δ h1=>∃ (x5 x6:Option D),δ=[some (.lst (P.map fuD)),some (.ref h.length),some (.int (0 + (i:Int))),some (fuD F),some (.ref (List.length (h ++ chO h.length C))),x5,x6]∧h1=(h ++ chO h.length C) ++ [.lst ((p'.flatMap fun x=>rowE P F x.2 x.1).map eD)]) ⟨_,_,rfl,rfl⟩ (fun _ _ _ _=>Src.ok_nil) ?_ ?_
  ·rintro p' ⟨rw_,j⟩ r' δ h1 N2 e' ⟨x5,x6,rfl,rfl⟩ hN2
   obtain ⟨hj,hr⟩:=zip_at e'
   have pl':p'.length < F.rows.length:=(List.getElem?_eq_some_iff.mp hr).1
   have fl:=flat_len (fun x:Rw×Nat=>rowE P F x.2 x.1) 2 (fun x=>rowE_len _ _ _ _) p'
   have rl:=rowE_len P F j rw_
   simp only [VV]
   refine ⟨trivial,?_⟩
   simp only [get_new,VV]
   refine ⟨.lst (P.map fuD),P,i,j,rw_,F,by rw [Int.zero_add,Int.zero_add],rfl,by rw [hi];exact hF,v4,ok.ok F mF rw_ (List.mem_of_getElem? hr),?_⟩
   simp only [get_new,set_new,List.length_map,VV]
   refine ⟨by first | decide | omega,hN2 _ _ ⟨_,_,rfl,?_⟩⟩
   rw [List.flatMap_append,List.map_append];simp
  ·rintro δ h1 ⟨x5,x6,rfl,rfl⟩
   subst hN
   have asc:∀ x:O,(h ++ chO h.length C) ++ [x]=h ++ (.lst (tops h.length C) :: (C.map fE ++ [x])):=fun x=>by unfold chO;simp
   have g0:∀ x:O,((h ++ chO h.length C) ++ [x])[h.length]?=some (.lst (tops h.length C)):=fun x=>by rw [asc,List.getElem?_append_right (Nat.le_refl _)];simp
   have g1:∀ (x:O) (l:List D),((h ++ chO h.length C) ++ [x]).set h.length (.lst l)=h ++ (.lst l :: (C.map fE ++ [x])):=fun x l=>by rw [asc,List.set_append_right _ _ (Nat.le_refl _)];simp
   have tl:(tops h.length C).length=C.length:=by unfold tops;simp
   simp only [g0,fuD,List.length_map,VV]
   refine ⟨F,rfl,?_⟩
   simp only [g0,g1,tl,VV]
   refine ⟨by first | decide | omega,hN1 _ _ ⟨_,_,_,_,_,rfl,?_⟩⟩
   rw [List.map_append,show chartQ P (p.map (·.1) ++ [(F,i)].map (·.1))=C ++ [⟨F.rows.length + 1,F.vars.length + 2,fnE P F⟩] by rw [← hC];unfold chartQ;rw [List.map_append];rfl]
   rw [hl]
   unfold chO
   rw [tops_snoc,List.map_append]
   rfl
 ·rintro δ h' ⟨x2,x3,x4,x5,x6,rfl,rfl⟩
  subst hN
  simp only [VV]
  rw [List.zipIdx_map_fst]
  exact q
theorem ok_q23{f:Addr}{fd:FuncData}(F:Fun K "chart_of" "chart_of" s_q23 f fd)(T:Txt P w K mg)(C_q33:Cal P w K mg base 4 "row_edges" ["program","f","p","row"] (spD K 4 S_q33))(C_q29:Cal P w K mg base 1 "facts_of" ["function"] (spD K 1 S_q29)):FnOk P w K mg base CX0 5 f fd ["program"] (spD K 1 S_q23) :=
 fn_ok (k:=4) (b:=b_q23) F sc_q23 (fun cdv A outer s H E hr=>by
  refine ss_cons ?_ ?_
  ·refine s_set (i:=1) ?_ ?_ ?_ ?_
   ·exact sc_q23.nd
   ·exact rfl
   ·exact Or.inl rfl
   exact se_t (sn_lst sa_nil)
  refine ss_cons ?_ ?_
  ·refine s_for ?_ ?_ ?_ ?_ ?_
   ·exact PassesOwn.never
   ·exact rfl
   ·exact si_enum rfl T.b_enumerate (sa_cons (sv 0) sa_nil)
   ·exact sg_tup rfl (sgs_cons (sg_name (i:=2) sc_q23.nd rfl (Or.inl rfl)) (sgs_cons (sg_name (i:=3) sc_q23.nd rfl (Or.inl rfl)) sgs_nil))
   refine ss_cons ?_ ?_
   ·refine s_set (i:=4) ?_ ?_ ?_ ?_
    ·exact sc_q23.nd
    ·exact rfl
    ·exact Or.inl rfl
    exact se_t (sn_lst sa_nil)
   refine ss_cons ?_ ?_
   ·refine s_for ?_ ?_ ?_ ?_ ?_
    ·exact PassesOwn.never
    ·exact rfl
    ·exact si_enum rfl T.b_enumerate (sa_cons (se_ix ok_ix (sv 3) se_int (fun _ _=>rfl)) sa_nil)
    ·exact sg_tup rfl (sgs_cons (sg_name (i:=5) sc_q23.nd rfl (Or.inl rfl)) (sgs_cons (sg_name (i:=6) sc_q23.nd rfl (Or.inl rfl)) sgs_nil))
    refine ss_one ?_
    refine s_expr ?_
    refine se_extend (n:=1) ?_ ?_
    ·exact sv 4
    refine sa_cons ?_ ?_
    ·exact se_cal C_q33 (hr.mono (by decide)) rfl (sa_cons (sv 0) (sa_cons (sv 2) (sa_cons (sv 5) (sa_cons (sv 6) sa_nil))))
    exact sa_nil
   refine ss_one ?_
   refine s_expr ?_
   exact se_append (sv 1) (sa_cons (se_tup (sa_cons (se_op ok_plus (se_callB ok_len rfl T.b_len PySem.boot_len (sa_cons (se_ix ok_ix (sv 3) se_int (fun _ _=>rfl)) sa_nil)) se_int) (sa_cons (se_cal C_q29 (hr.mono (by decide)) rfl (sa_cons (sv 3) sa_nil)) (sa_cons (sv 4) sa_nil)))) sa_nil)
  refine ss_one ?_
  refine s_ret ?_
  exact sv 1) imp_q23
noncomputable def b_q2:DS:=(dSeq (dAsg (dTk (dCons (dTk dNil) dNil)) (dName 2))
  (dSeq (dAsg (dC (.int 1)) (dName 3))
  (dSeq (dFor (dISeq (dVar 0)) (dName 4) (dSeq (dAsg (dOp pPlus (dC (.int 1)) (dCB pInt (dCons (dOp (pEq false) (dOp pMod (dVar 4) (dC (.int 11))) (dC (.int 6))) dNil))) (dName 5))
  (dIfS (dOr (dTst (dOp (pEq false) (dOp pMod (dVar 4) (dC (.int 7))) (dC (.int 0)))) (dTst (dOp (pEq false) (dCB pLen (dCons (dOp pIx (dVar 2) (dUn pNeg (dC (.int 1)))) dNil)) (dOp pSub (dOp pIx (dVar 1) (dC (.int 1))) (dC (.int 1)))))) (dIfS (dAnd (dTst (dOp pLtI (dCB pLen (dCons (dVar 2) dNil)) (dOp pIx (dVar 1) (dC (.int 0))))) (dTst (dOp pLtI (dVar 3) (dOp pIx (dVar 1) (dC (.int 2)))))) (dSeq (dDrop (dAppend (dVar 2) (dCons (dTk dNil) dNil)))
  (dAsg (dOp pPlus (dVar 3) (dC (.int 1))) (dName 3))) dNext) (dIfS (dTst (dOp pLe (dOp pPlus (dVar 3) (dVar 5)) (dOp pIx (dVar 1) (dC (.int 2))))) (dSeq (dDrop (dAppend (dOp pIx (dVar 2) (dUn pNeg (dC (.int 1)))) (dCons (dVar 4) dNil)))
  (dAsg (dOp pPlus (dVar 3) (dVar 5)) (dName 3))) dNext))))
  (dRet (dVar 2)))))
noncomputable def wtC(c:Int):Nat:=if c % 11=6 then 2 else 1
noncomputable def wtB(b:List Int):Nat:=(b.map wtC).sum
noncomputable def total(bs:List (List Int)):Nat:=(bs.map fun b=>1 + wtB b).sum
noncomputable def boD(b:List Int):D:=.lst (b.map D.int)
structure BSt(h h':Hh)(bi:List (List Int))(l:List Int)(ki:List Nat)(k:Nat):Prop where
 pre:∃ g,h'=h ++ g
 out:h'[h.length + 1]?=some (.lst ((ki ++ [k]).map D.ref))
 len:ki.length=bi.length
 nd:∀ x ∈ ki,x ≠ k
 at_:∀ (i x:Nat) (b:List Int),ki[i]?=some x→bi[i]?=some b→h.length ≤ x∧x ≠ h.length + 1∧h'[x]?=some (.lst (b.map D.int))
 lst:h.length ≤ k∧k ≠ h.length + 1∧h'[k]?=some (.lst (l.map D.int))
theorem BSt.app{h h':Hh}{bi:List (List Int)}{l:List Int}{ki:List Nat}{k:Nat}(s:BSt h h' bi l ki k)(c:Int):BSt h (h'.set k (.lst (l.map D.int ++ [.int c]))) bi (l ++ [c]) ki k:=by
 obtain ⟨⟨g,rfl⟩,o,ln,nd,a,l1,l2,l3⟩:=s
 have hk:=(List.getElem?_eq_some_iff.mp l3).1
 refine ⟨⟨g.set (k - h.length) _,List.set_append_right _ _ l1⟩,by rw [List.getElem?_set_ne l2];exact o,ln,nd,fun i x b h1 h2=>?_,l1,l2,by rw [List.getElem?_set_self hk,List.map_append];rfl⟩
 obtain ⟨p1,p2,p3⟩:=a i x b h1 h2
 exact ⟨p1,p2,by rw [List.getElem?_set_ne (nd x (List.mem_of_getElem? h1)).symm];exact p3⟩
theorem BSt.push{h h':Hh}{bi:List (List Int)}{l:List Int}{ki:List Nat}{k:Nat}(s:BSt h h' bi l ki k):BSt h ((h' ++ [O.lst []]).set (h.length + 1) (O.lst ((ki ++ [k]).map D.ref ++ [D.ref h'.length]))) (bi ++ [l]) [] (ki ++ [k]) h'.length:=by
 obtain ⟨⟨g,e⟩,o,ln,nd,a,l1,l2,l3⟩:=s
 have ho:=(List.getElem?_eq_some_iff.mp o).1
 have hk:=(List.getElem?_eq_some_iff.mp l3).1
 have hl:h.length ≤ h'.length:=by rw [e];simp
 have old:∀ (x:Nat) (u:O),x ≠ h.length + 1→h'[x]?=some u→((h' ++ [O.lst []]).set (h.length + 1) (O.lst ((ki ++ [k]).map D.ref ++ [D.ref h'.length])))[x]?=some u:=fun x u n1 n2=>by
  rw [List.getElem?_set_ne (Ne.symm n1),List.getElem?_append_left (List.getElem?_eq_some_iff.mp n2).1];exact n2
 have lt:∀ (i x:Nat) (b:List Int),(ki ++ [k])[i]?=some x→(bi ++ [l])[i]?=some b→h.length ≤ x∧x ≠ h.length + 1∧h'[x]?=some (.lst (b.map D.int)):=fun i x b h1 h2=>by
  rcases Nat.lt_or_ge i ki.length with z | z
  ·rw [List.getElem?_append_left z] at h1
   rw [List.getElem?_append_left (by first | decide | omega)] at h2
   exact a i x b h1 h2
  ·have zi:i=ki.length:=by
    have:=(List.getElem?_eq_some_iff.mp h1).1
    rw [List.length_append,List.length_singleton] at this;omega
   subst zi
   rw [List.getElem?_append_right (Nat.le_refl _),Nat.sub_self] at h1
   rw [ln,List.getElem?_append_right (Nat.le_refl _),Nat.sub_self] at h2
   cases h1;cases h2
   exact ⟨l1,l2,l3⟩
 refine ⟨⟨(g ++ [O.lst []]).set 1 (O.lst ((ki ++ [k]).map D.ref ++ [D.ref h'.length])),?_⟩,?_,by simp [ln],fun x hx=>?_,fun i x b h1 h2=>?_,hl,by first | decide | omega,?_⟩
 ·rw [e,List.append_assoc,List.set_append_right _ _ (by first | decide | omega)]
  rw [show h.length + 1 - h.length=1 by first | decide | omega]
 ·rw [List.getElem?_set_self (by rw [List.length_append];omega)]
  exact congrArg (fun l=>some (O.lst l)) (by rw [List.map_append (l₁:=ki ++ [k])];rfl)
 ·obtain ⟨i,hi⟩:=List.mem_iff_getElem?.mp hx
  obtain ⟨b,hb⟩:∃ b,(bi ++ [l])[i]?=some b:=⟨_,List.getElem?_eq_getElem (by have:=(List.getElem?_eq_some_iff.mp hi).1;simp at this ⊢;omega)⟩
  have:=(List.getElem?_eq_some_iff.mp (lt i x b hi hb).2.2).1
  omega
 ·obtain ⟨p1,p2,p3⟩:=lt i x b h1 h2
  exact ⟨p1,p2,old x _ p2 p3⟩
 ·rw [List.getElem?_set_ne (by first | decide | omega),List.getElem?_append_right (Nat.le_refl _),Nat.sub_self];rfl
noncomputable def S_q2:DSp:=fun ds h Q=>∃ cs:List Int,ds=[.lst (cs.map D.int),.tup [.int 6,.int 9,.int 24,.int 4]]∧cs.length ≤ 100∧∀ bs:List (List Int),1 ≤ bs.length→bs.length ≤ 6→(∀ b ∈ bs,b.length ≤ 8)→total bs ≤ 24→Q (.lst (bs.map boD)) h
theorem imp_q2:∀ ds h Q,S_q2 ds h Q→runD 6 b_q2 ds h (Dr h Q):=by
 rintro ds h Q ⟨cs,rfl,hcl,q⟩
 delta runD b_q2;simp only [List.map_cons,List.map_nil,List.cons_append,List.nil_append,List.length_cons,List.length_nil,List.replicate,Nat.reduceSub,Nat.reduceAdd,Nat.zero_add,Nat.sub_self]
 (try dsimp only);refine seq_intro fun N hN=>?_
 simp only [VV]
 subst hN
 (try dsimp only);refine seq_intro fun N hN=>?_
 simp only [VV]
 subst hN
 (try dsimp only);refine seq_intro fun N hN=>?_
 simp only [VV]
 refine forL_map (fun p δ h'=>∃ (bi:List (List Int)) (l:List Int) (ki:List Nat) (k:Nat) (x4 x5:Option D),δ=[some (.lst (cs.map D.int)),some (.tup [.int 6,.int 9,.int 24,.int 4]),some (.ref (h.length + 1)),some (nD (total (bi ++ [l]))),x4,x5]∧BSt h h' bi l ki k∧bi.length ≤ 5∧(∀ b ∈ bi ++ [l],b.length ≤ 8)∧total (bi ++ [l]) ≤ 24) ⟨[],[],[],h.length,none,none,?_,?_,by decide,by simp,by decide⟩ (fun _ _ _ _=>Src.ok_nil) ?_ ?_
 ·simp [total,wtB]
 ·refine ⟨⟨[O.lst [],O.lst [D.ref h.length]],by simp⟩,by simp,rfl,(fun x hx=>nomatch hx),(fun i x b h1=>nomatch h1),Nat.le_refl _,by first | decide | omega,by simp⟩
 ·rintro p c r δ h' N1 e ⟨bi,l,ki,k,x4,x5,rfl,st,b5,b8,t24⟩ hN1
  have l8:=b8 l (by simp)
  have kl:ki.length=bi.length:=st.len
  have lo:lsOf h' (.ref (h.length + 1))=some ((ki ++ [k]).map D.ref):=lsOf_ref st.out
  have ixL:ixD h' (.ref (h.length + 1)) (.int (-1))=some (.ref k):=by rw [ix_ls lo,List.map_append];exact atLast _ _
  have lk:lenD h' (.ref k)=some l.length:=by rw [len_ls (lsOf_ref st.lst.2.2),List.length_map]
  simp only [VV]
  (try dsimp only);refine seq_intro fun N hN=>?_
  simp only [VV]
  refine ⟨by decide,?_⟩
  have ew:(1:Int) + (if (c % 11 == 6)=true then 1 else 0)=((wtC c:Nat):Int):=by
   unfold wtC
   by_cases z:c % 11=6
   ·rw [if_pos (by simpa using z),if_pos z];rfl
   ·rw [if_neg (by simpa using z),if_neg z];rfl
  rw [ew]
  subst hN
  (try dsimp only);refine if_intro fun A1 B1 hA hB=>?_
  have t1:∀ (a:List (List Int)) (b:List Int),total (a ++ [b])=total a + (1 + wtB b):=fun a b=>by unfold total;rw [List.map_append,List.sum_append];simp
  have lB:lenD h' (.ref (h.length + 1))=some (bi.length + 1):=by rw [len_ls lo,List.length_map,List.length_append,kl];rfl
  have grow:A1 [some (.lst (cs.map D.int)),some (.tup [.int 6,.int 9,.int 24,.int 4]),some (.ref (h.length + 1)),some (nD (total (bi ++ [l]))),some (.int c),some (nD (wtC c))] h':=by
   subst hA
   (try dsimp only);refine if_intro fun A1 B1 hA hB=>?_
   by_cases z1:((bi.length + 1:Nat):Int) < 6
   ·by_cases z2:((total (bi ++ [l]):Nat):Int) < 24
    ·simp only [lB,z1,z2,VV]
     subst hA
     (try dsimp only);refine seq_intro fun N hN=>?_
     have g1:(h' ++ [O.lst []])[h.length + 1]?=some (.lst ((ki ++ [k]).map D.ref)):=by rw [List.getElem?_append_left (List.getElem?_eq_some_iff.mp st.out).1];exact st.out
     simp only [st.out,g1,List.length_map,List.length_append,VV]
     refine ⟨by first | decide | omega,?_⟩
     subst hN
     simp only [VV]
     have e0:total (bi ++ [l] ++ [[]])=total (bi ++ [l]) + 1:=t1 _ _
     refine hN1 _ _ ⟨bi ++ [l],[],ki ++ [k],h'.length,_,_,by rw [e0,show nD (total (bi ++ [l]) + 1) = .int (((total (bi ++ [l]):Nat):Int) + 1) from congrArg D.int (Int.natCast_add _ _)],st.push,by rw [List.length_append,List.length_singleton];omega,fun b hb=>?_,by first | decide | omega⟩
     rcases List.mem_append.mp hb with z | z
     ·exact b8 b z
     ·rw [List.mem_singleton.mp z];exact Nat.zero_le _
    ·simp only [lB,z1,z2,VV]
     subst hB
     simp only [VV]
     exact hN1 _ _ ⟨bi,l,ki,k,_,_,rfl,st,b5,b8,t24⟩
   ·simp only [lB,z1,VV]
    subst hB
    simp only [VV]
    exact hN1 _ _ ⟨bi,l,ki,k,_,_,rfl,st,b5,b8,t24⟩
  by_cases z7:c % 7=0
  ·have e7:(c % 7 == 0)=true:=by simpa using z7
   simp only [e7,VV]
   exact ⟨by decide,grow⟩
  ·have e7:(c % 7 == 0)=false:=by simpa using z7
   simp only [e7,ixL,lk,VV]
   refine ⟨by decide,?_⟩
   by_cases z8:l.length=8
   ·have e8:((l.length:Int) == 9 - 1)=true:=by rw [z8];rfl
    simp only [e8,VV]
    exact grow
   ·have e8:((l.length:Int) == 9 - 1)=false:=by simp;omega
    simp only [e8,VV]
    subst hB
    (try dsimp only);refine if_intro fun A1 B1 hA hB=>?_
    by_cases z9:((total (bi ++ [l]):Nat):Int) + ((wtC c:Nat):Int) ≤ 24
    ·simp only [z9,VV]
     subst hA
     (try dsimp only);refine seq_intro fun N hN=>?_
     simp only [ixL,st.lst.2.2,List.length_map,VV]
     refine ⟨by first | decide | omega,?_⟩
     subst hN
     simp only [VV]
     have w1:wtB (l ++ [c])=wtB l + wtC c:=by unfold wtB;rw [List.map_append,List.sum_append];simp
     have e0:total (bi ++ [l ++ [c]])=total (bi ++ [l]) + wtC c:=by rw [t1,t1,w1];omega
     refine hN1 _ _ ⟨bi,l ++ [c],ki,k,_,_,by rw [e0,show nD (total (bi ++ [l]) + wtC c) = .int (((total (bi ++ [l]):Nat):Int) + ((wtC c:Nat):Int)) from congrArg D.int (Int.natCast_add _ _)],st.app c,b5,fun b hb=>?_,by first | decide | omega⟩
     rcases List.mem_append.mp hb with z | z
     ·exact b8 b (List.mem_append_left _ z)
     ·rw [List.mem_singleton.mp z,List.length_append,List.length_singleton];omega
    ·simp only [z9,VV]
     subst hB
     simp only [VV]
     exact hN1 _ _ ⟨bi,l,ki,k,_,_,rfl,st,b5,b8,t24⟩
 ·rintro δ h' ⟨bi,l,ki,k,x4,x5,rfl,st,b5,b8,t24⟩
  subst hN
  simp only [VV]
  obtain ⟨g,eg⟩:=st.pre
  have vw:∀ (js:List Nat) (bs:List (List Int)),js.length=bs.length→(∀ (i x:Nat) (b:List Int),js[i]?=some x→bs[i]?=some b→h.length ≤ x∧h'[x]?=some (.lst (b.map D.int)))→Vws h.length h' (js.map D.ref) (bs.map boD):=by
   intro js
   induction js with
   |nil =>
    intro bs e _
    cases bs with
    |nil=>exact .nil
    |cons b r=>cases e
   |cons j js ih =>
    intro bs e k
    cases bs with
    |nil=>cases e
    |cons b bs =>
     obtain ⟨k1,k2⟩:=k 0 j b rfl rfl
     exact .cons (.opn k1 k2 (.of (nrDs_map (fun _=>rfl) b))) (ih bs (by simpa using e) fun i x b h1 h2=>k (i + 1) x b h1 h2)
  refine ⟨h,g,.lst ((bi ++ [l]).map boD),eg,rfl,fun _ _ e=>.inl e,.opn (by first | decide | omega) st.out (vw _ _ (by simp [st.len]) fun i x b h1 h2=>?_),q _ (by simp) (by simp;omega) b8 t24⟩
  rcases Nat.lt_or_ge i ki.length with z | z
  ·rw [List.getElem?_append_left z] at h1
   rw [List.getElem?_append_left (by rw [← st.len];exact z)] at h2
   obtain ⟨p1,p2,p3⟩:=st.at_ i x b h1 h2
   exact ⟨p1,p3⟩
  ·have zi:i=ki.length:=by
    have:=(List.getElem?_eq_some_iff.mp h1).1
    rw [List.length_append,List.length_singleton] at this;omega
   subst zi
   rw [List.getElem?_append_right (Nat.le_refl _),Nat.sub_self] at h1
   rw [st.len,List.getElem?_append_right (Nat.le_refl _),Nat.sub_self] at h2
   cases h1;cases h2
   exact ⟨st.lst.1,st.lst.2.2⟩
theorem ok_q2{f:Addr}{fd:FuncData}(F:Fun K "_law_bodies" "_law_bodies" s_q2 f fd)(T:Txt P w K mg):FnOk P w K mg base CX0 1 f fd ["_law_cells_here","_law_sizes"] (spD K 2 S_q2) :=
 fn_okD (k:=0) (b:=b_q2) F sc_q2 (fun cdv A outer s H E hr=>by
  refine ss_cons ?_ ?_
  ·refine s_set (i:=2) ?_ ?_ ?_ ?_
   ·exact sc_q2.nd
   ·exact rfl
   ·exact Or.inl rfl
   exact se_t (sn_lst (sa_cons (se_t (sn_lst sa_nil)) sa_nil))
  refine ss_cons ?_ ?_
  ·refine s_set (i:=3) ?_ ?_ ?_ ?_
   ·exact sc_q2.nd
   ·exact rfl
   ·exact Or.inl rfl
   exact se_int
  refine ss_cons ?_ ?_
  ·refine s_for ?_ ?_ ?_ ?_ ?_
   ·exact PassesOwn.never
   ·exact rfl
   ·exact si_seq (sv 0)
   ·exact sg_name (i:=4) sc_q2.nd rfl (Or.inl rfl)
   refine ss_cons ?_ ?_
   ·refine s_set (i:=5) ?_ ?_ ?_ ?_
    ·exact sc_q2.nd
    ·exact rfl
    ·exact Or.inl rfl
    exact se_op ok_plus se_int (se_callTy ok_int rfl T.b_int PyProof.Rows.boot_int (sa_cons (se_cmp (ok_eq hr.units) (se_op ok_mod (sv 4) se_int) se_int (nomark _)) sa_nil))
   refine ss_one ?_
   refine s_if ?_ ?_ ?_
   ·exact st_w (sw_or (st_cmp (ok_eq hr.units) (se_op ok_mod (sv 4) se_int) se_int (nomark _)) (sw_or1 (st_cmp (ok_eq hr.units) (se_callB ok_len rfl T.b_len PySem.boot_len (sa_cons (se_ix ok_ix (sv 2) (se_un ok_neg se_int) (fun _ _=>rfl)) sa_nil)) (se_op ok_sub (se_ix ok_ix (sv 1) se_int (fun _ _=>rfl)) se_int) (nomark _))))
   ·refine ss_one ?_
    refine s_if ?_ ?_ ?_
    ·exact st_w (sw_and (st_cmp ok_ltI (se_callB ok_len rfl T.b_len PySem.boot_len (sa_cons (sv 2) sa_nil)) (se_ix ok_ix (sv 1) se_int (fun _ _=>rfl)) (nomark _)) (sw_and1 (st_cmp ok_ltI (sv 3) (se_ix ok_ix (sv 1) se_int (fun _ _=>rfl)) (nomark _))))
    ·refine ss_cons ?_ ?_
     ·refine s_expr ?_
      exact se_append (sv 2) (sa_cons (se_t (sn_lst sa_nil)) sa_nil)
     refine ss_one ?_
     refine s_set (i:=3) ?_ ?_ ?_ ?_
     ·exact sc_q2.nd
     ·exact rfl
     ·exact Or.inl rfl
     exact se_op ok_plus (sv 3) se_int
    exact ss_nil
   refine ss_one ?_
   refine s_if ?_ ?_ ?_
   ·exact st_cmp ok_le (se_op ok_plus (sv 3) (sv 5)) (se_ix ok_ix (sv 1) se_int (fun _ _=>rfl)) (nomark _)
   ·refine ss_cons ?_ ?_
    ·refine s_expr ?_
     exact se_append (se_ix ok_ix (sv 2) (se_un ok_neg se_int) (fun _ _=>rfl)) (sa_cons (sv 4) sa_nil)
    refine ss_one ?_
    refine s_set (i:=3) ?_ ?_ ?_ ?_
    ·exact sc_q2.nd
    ·exact rfl
    ·exact Or.inl rfl
    exact se_op ok_plus (sv 3) (sv 5)
   exact ss_nil
  refine ss_one ?_
  refine s_ret ?_
  exact sv 2) imp_q2
noncomputable def b_q17:DS:=(dSeq (dIfS (dTst (dOp (pEq false) (dOp pIx (dVar 0) (dC (.int 0))) (dC (.str "to")))) (dRet (dVar 0)) dNext)
  (dSeq (dAsg (dIndexL (dVar 1) (dCons (dOp pIx (dVar 0) (dC (.int 1))) dNil)) (dName 2))
  (dSeq (dIfS (dTst (dOp (pEq false) (dOp pIx (dVar 0) (dC (.int 0))) (dC (.str "copy")))) (dRet (dTup (dCons (dC (.str "copy")) (dCons (dVar 2) (dCons (dIndexL (dVar 1) (dCons (dOp pIx (dVar 0) (dC (.int 2))) dNil)) dNil))))) dNext)
  (dSeq (dIfS (dTst (dOp (pEq false) (dOp pIx (dVar 0) (dC (.int 0))) (dC (.str "does")))) (dRet (dTup (dCons (dC (.str "does")) (dCons (dVar 2) (dCons (dOp pIx (dVar 0) (dC (.int 2))) (dCons (dIndexL (dVar 1) (dCons (dOp pIx (dVar 0) (dC (.int 3))) dNil)) (dCons (dIndexL (dVar 1) (dCons (dOp pIx (dVar 0) (dC (.int 4))) dNil)) dNil))))))) dNext)
  (dSeq (dIfS (dTst (dOp (pEq false) (dOp pIx (dVar 0) (dC (.int 0))) (dC (.str "call")))) (dRet (dTup (dCons (dC (.str "call")) (dCons (dVar 2) (dCons (dOp pIx (dVar 0) (dC (.int 2))) (dCons (dCB pTuple (dCons (dV (dComp [none,some 1] (dISeq (dOp pIx (dVar 0) (dC (.int 3)))) (dName 0) dNoIf (dIndexL (dVar 1) (dCons (dVar 0) dNil)))) dNil)) dNil)))))) dNext)
  (dRet (dOp pPlus (dTup (dCons (dOp pIx (dVar 0) (dC (.int 0))) (dCons (dVar 2) dNil))) (dSl (dVar 0) (dPart (dC (.int 2))) dNoPart))))))))
theorem idx_cast(o:List Nat)(x:Nat):(o.map (fun n:Nat=>(n:Int))).idxOf (x:Int)=o.idxOf x:=by
 induction o with
 |nil=>rfl
 |cons a r ih =>
  rw [List.map_cons,List.idxOf_cons,List.idxOf_cons,ih]
  by_cases z:a=x
  ·subst z;simp
  ·have:¬ (a:Int)=(x:Int):=fun y=>z (by first | decide | omega)
   rw [beq_eq_false_iff_ne.mpr this,beq_eq_false_iff_ne.mpr z]
noncomputable def renR(o:List Nat):Rw→Rw
 |.num x k=>.num (o.idxOf x) k
 |.copy x y=>.copy (o.idxOf x) (o.idxOf y)
 |.does x w y z=>.does (o.idxOf x) w (o.idxOf y) (o.idxOf z)
 |.dye x=>.dye (o.idxOf x)
 |.wash x=>.wash (o.idxOf x)
 |.ifq x q=>.ifq (o.idxOf x) q
 |.to q=>.to q
 |.ret x=>.ret (o.idxOf x)
 |.call x g ys=>.call (o.idxOf x) g (ys.map o.idxOf)
noncomputable def S_q17:DSp:=fun ds h Q=>∃ (r:Rw) (d:D) (o:List Nat),ds=[roD r,d]∧lsOf h d=some (o.map nD)∧o.length ≤ 100∧(∀ x ∈ labs r,x ∈ o)∧(labs r).length ≤ 100∧Q (roD (renR o r)) h
theorem imp_q17:∀ ds h Q,S_q17 ds h Q→runD 3 b_q17 ds h Q:=by
 rintro ds h Q ⟨r,d,o,rfl,ho,hl,hx,hll,q⟩
 have so:(lsOf h d).isSome=true:=by rw [ho];rfl
 have e1:lsOf h d=some ((o.map (fun n:Nat=>(n:Int))).map D.int):=by rw [ho,List.map_map];rfl
 have e2:(o.map (fun n:Nat=>(n:Int))).length ≤ 100:=by rw [List.length_map];exact hl
 have mI:∀ x:Nat,x ∈ o→(x:Int) ∈ o.map (fun n:Nat=>(n:Int)):=fun x hm=>List.mem_map.mpr ⟨x,hm,rfl⟩
 delta runD b_q17;simp only [List.map_cons,List.map_nil,List.cons_append,List.nil_append,List.length_cons,List.length_nil,List.replicate,Nat.reduceSub,Nat.reduceAdd,Nat.zero_add,Nat.sub_self]
 cases r with
 |to y=>(try dsimp only);refine seq_intro fun N hN=>?_;simp only [roD,VV];exact q
 |copy x y =>
  (try dsimp only);refine seq_intro fun N hN=>?_
  simp only [roD,VV]
  subst hN
  (try dsimp only);refine seq_intro fun N hN=>?_
  simp only [VV]
  refine ⟨so,_,(x:Int),rfl,e1,e2,mI x (hx x (by simp [labs])),?_⟩
  rw [idx_cast]
  subst hN
  (try dsimp only);refine seq_intro fun N hN=>?_
  simp only [VV]
  refine ⟨so,_,(y:Int),rfl,e1,e2,mI y (hx y (by simp [labs])),?_⟩
  rw [idx_cast]
  exact q
 |does x w y z =>
  (try dsimp only);refine seq_intro fun N hN=>?_
  simp only [roD,VV]
  subst hN
  (try dsimp only);refine seq_intro fun N hN=>?_
  simp only [VV]
  refine ⟨so,_,(x:Int),rfl,e1,e2,mI x (hx x (by simp [labs])),?_⟩
  rw [idx_cast]
  subst hN
  (try dsimp only);refine seq_intro fun N hN=>?_
  simp only [VV]
  subst hN
  (try dsimp only);refine seq_intro fun N hN=>?_
  simp only [VV]
  refine ⟨so,_,(y:Int),rfl,e1,e2,mI y (hx y (by simp [labs])),?_⟩
  rw [idx_cast]
  refine ⟨so,_,(z:Int),rfl,e1,e2,mI z (hx z (by simp [labs])),?_⟩
  rw [idx_cast]
  exact q
 |call x g ys =>
  (try dsimp only);refine seq_intro fun N hN=>?_
  simp only [roD,VV]
  subst hN
  (try dsimp only);refine seq_intro fun N hN=>?_
  simp only [VV]
  refine ⟨so,_,(x:Int),rfl,e1,e2,mI x (hx x (by simp [labs])),?_⟩
  rw [idx_cast]
  subst hN
  (try dsimp only);refine seq_intro fun N hN=>?_
  simp only [VV]
  subst hN
  (try dsimp only);refine seq_intro fun N hN=>?_
  simp only [VV]
  subst hN
  (try dsimp only);refine seq_intro fun N hN=>?_
  simp only [VV]
  have hll:ys.length + 1 ≤ 100:=hll
  refine ⟨by rw [List.length_map];omega,?_⟩
  refine comp1n (fun y:Nat=>nD (o.idxOf y)) Src.ok_nil none (fun y hy K k=>?_) ?_
  ·simp only [VV]
   refine ⟨so,_,(y:Int),rfl,e1,e2,mI y (hx y (by simp [labs,hy])),?_⟩
   rw [idx_cast]
   exact k
  ·have q:Q (.tup [.str "call",nD (o.idxOf x),nD g,.tup ((ys.map o.idxOf).map nD)]) h:=q
   rw [List.map_map] at q
   exact q
 |num x k =>
  (try dsimp only);refine seq_intro fun N hN=>?_
  simp only [roD,VV]
  subst hN
  (try dsimp only);refine seq_intro fun N hN=>?_
  simp only [VV]
  refine ⟨so,_,(x:Int),rfl,e1,e2,mI x (hx x (by simp [labs])),?_⟩
  rw [idx_cast]
  subst hN
  (try dsimp only);refine seq_intro fun N hN=>?_
  simp only [VV]
  subst hN
  (try dsimp only);refine seq_intro fun N hN=>?_
  simp only [VV]
  subst hN
  (try dsimp only);refine seq_intro fun N hN=>?_
  simp only [VV]
  have cu:cutD [.str "number",nD x,.int k] (some 2) none=[.int k]:=rfl
  subst hN
  simp only [cu,VV]
  first | exact q | exact ⟨List.cons_ne_nil _ _,by decide,q⟩
 |dye x =>
  (try dsimp only);refine seq_intro fun N hN=>?_
  simp only [roD,VV]
  subst hN
  (try dsimp only);refine seq_intro fun N hN=>?_
  simp only [VV]
  refine ⟨so,_,(x:Int),rfl,e1,e2,mI x (hx x (by simp [labs])),?_⟩
  rw [idx_cast]
  subst hN
  (try dsimp only);refine seq_intro fun N hN=>?_
  simp only [VV]
  subst hN
  (try dsimp only);refine seq_intro fun N hN=>?_
  simp only [VV]
  subst hN
  (try dsimp only);refine seq_intro fun N hN=>?_
  simp only [VV]
  have cu:cutD [.str "dye",nD x] (some 2) none=[]:=rfl
  subst hN
  simp only [cu,VV]
  first | exact q | exact ⟨List.cons_ne_nil _ _,by decide,q⟩
 |wash x =>
  (try dsimp only);refine seq_intro fun N hN=>?_
  simp only [roD,VV]
  subst hN
  (try dsimp only);refine seq_intro fun N hN=>?_
  simp only [VV]
  refine ⟨so,_,(x:Int),rfl,e1,e2,mI x (hx x (by simp [labs])),?_⟩
  rw [idx_cast]
  subst hN
  (try dsimp only);refine seq_intro fun N hN=>?_
  simp only [VV]
  subst hN
  (try dsimp only);refine seq_intro fun N hN=>?_
  simp only [VV]
  subst hN
  (try dsimp only);refine seq_intro fun N hN=>?_
  simp only [VV]
  have cu:cutD [.str "wash",nD x] (some 2) none=[]:=rfl
  subst hN
  simp only [cu,VV]
  first | exact q | exact ⟨List.cons_ne_nil _ _,by decide,q⟩
 |ifq x z =>
  (try dsimp only);refine seq_intro fun N hN=>?_
  simp only [roD,VV]
  subst hN
  (try dsimp only);refine seq_intro fun N hN=>?_
  simp only [VV]
  refine ⟨so,_,(x:Int),rfl,e1,e2,mI x (hx x (by simp [labs])),?_⟩
  rw [idx_cast]
  subst hN
  (try dsimp only);refine seq_intro fun N hN=>?_
  simp only [VV]
  subst hN
  (try dsimp only);refine seq_intro fun N hN=>?_
  simp only [VV]
  subst hN
  (try dsimp only);refine seq_intro fun N hN=>?_
  simp only [VV]
  have cu:cutD [.str "if",nD x,nD z] (some 2) none=[nD z]:=rfl
  subst hN
  simp only [cu,VV]
  first | exact q | exact ⟨List.cons_ne_nil _ _,by decide,q⟩
 |ret x =>
  (try dsimp only);refine seq_intro fun N hN=>?_
  simp only [roD,VV]
  subst hN
  (try dsimp only);refine seq_intro fun N hN=>?_
  simp only [VV]
  refine ⟨so,_,(x:Int),rfl,e1,e2,mI x (hx x (by simp [labs])),?_⟩
  rw [idx_cast]
  subst hN
  (try dsimp only);refine seq_intro fun N hN=>?_
  simp only [VV]
  subst hN
  (try dsimp only);refine seq_intro fun N hN=>?_
  simp only [VV]
  subst hN
  (try dsimp only);refine seq_intro fun N hN=>?_
  simp only [VV]
  have cu:cutD [.str "return",nD x] (some 2) none=[]:=rfl
  subst hN
  simp only [cu,VV]
  first | exact q | exact ⟨List.cons_ne_nil _ _,by decide,q⟩
theorem ok_q17{f:Addr}{fd:FuncData}(F:Fun K "_law_renumbered" "_law_renumbered" s_q17 f fd)(T:Txt P w K mg):FnOk P w K mg base CX0 1 f fd ["_law_row","_law_order"] (spD K 2 S_q17) :=
 fn_ok (k:=0) (b:=b_q17) F sc_q17 (fun cdv A outer s H E hr=>by
  refine ss_cons ?_ ?_
  ·refine s_if ?_ ?_ ?_
   ·exact st_cmp (ok_eq hr.units) (se_ix ok_ix (sv 0) se_int (fun _ _=>rfl)) se_str (nomark _)
   ·refine ss_one ?_
    refine s_ret ?_
    exact sv 0
   exact ss_nil
  refine ss_cons ?_ ?_
  ·refine s_set (i:=2) ?_ ?_ ?_ ?_
   ·exact sc_q17.nd
   ·exact rfl
   ·exact Or.inl rfl
   exact se_indexL (sv 1) (sa_cons (se_ix ok_ix (sv 0) se_int (fun _ _=>rfl)) sa_nil)
  refine ss_cons ?_ ?_
  ·refine s_if ?_ ?_ ?_
   ·exact st_cmp (ok_eq hr.units) (se_ix ok_ix (sv 0) se_int (fun _ _=>rfl)) se_str (nomark _)
   ·refine ss_one ?_
    refine s_ret ?_
    refine se_tup (n:=3) ?_
    refine sa_cons ?_ ?_
    ·exact se_str
    refine sa_cons ?_ ?_
    ·exact sv 2
    refine sa_cons ?_ ?_
    ·exact se_indexL (sv 1) (sa_cons (se_ix ok_ix (sv 0) se_int (fun _ _=>rfl)) sa_nil)
    exact sa_nil
   exact ss_nil
  refine ss_cons ?_ ?_
  ·refine s_if ?_ ?_ ?_
   ·exact st_cmp (ok_eq hr.units) (se_ix ok_ix (sv 0) se_int (fun _ _=>rfl)) se_str (nomark _)
   ·refine ss_one ?_
    refine s_ret ?_
    refine se_tup (n:=5) ?_
    refine sa_cons ?_ ?_
    ·exact se_str
    refine sa_cons ?_ ?_
    ·exact sv 2
    refine sa_cons ?_ ?_
    ·exact se_ix ok_ix (sv 0) se_int (fun _ _=>rfl)
    refine sa_cons ?_ ?_
    ·exact se_indexL (sv 1) (sa_cons (se_ix ok_ix (sv 0) se_int (fun _ _=>rfl)) sa_nil)
    refine sa_cons ?_ ?_
    ·exact se_indexL (sv 1) (sa_cons (se_ix ok_ix (sv 0) se_int (fun _ _=>rfl)) sa_nil)
    exact sa_nil
   exact ss_nil
  refine ss_cons ?_ ?_
  ·refine s_if ?_ ?_ ?_
   ·exact st_cmp (ok_eq hr.units) (se_ix ok_ix (sv 0) se_int (fun _ _=>rfl)) se_str (nomark _)
   ·refine ss_one ?_
    refine s_ret ?_
    refine se_tup (n:=4) ?_
    refine sa_cons ?_ ?_
    ·exact se_str
    refine sa_cons ?_ ?_
    ·exact sv 2
    refine sa_cons ?_ ?_
    ·exact se_ix ok_ix (sv 0) se_int (fun _ _=>rfl)
    refine sa_cons ?_ ?_
    ·exact se_callTy ok_tuple rfl T.b_tuple PyProof.Rows.boot_tuple (sa_cons (se_v (sn_comp rfl (N':= ["_law_label","_law_order"]) (js:=[none,some 1]) ⟨rfl,by decide +kernel,rfl,rfl,rfl⟩ (si_seq (se_ix ok_ix (sv 0) se_int (fun _ _=>rfl))) (fun s0 H0 fp=>⟨(sg_name (i:=0) (show (["_law_label","_law_order"]:List Str).Nodup by decide +kernel) rfl (Or.inl rfl)),sf_nil,(se_indexL (sv 1) (sa_cons (sv 0) sa_nil))⟩))) sa_nil)
    exact sa_nil
   exact ss_nil
  refine ss_one ?_
  refine s_ret ?_
  exact se_op ok_plus (se_tup (sa_cons (se_ix ok_ix (sv 0) se_int (fun _ _=>rfl)) (sa_cons (sv 2) sa_nil))) (se_sl (sv 0) (so_some se_int) so_none)) imp_q17
noncomputable def b_q12:DS:=(dSeq (dIfS (dOr (dNot (dTr (dIsinst "tuple" (dVar 0)))) (dTst (dOp (pEq true) (dCB pLen (dCons (dVar 0) dNil)) (dCB pLen (dCons (dVar 1) dNil))))) (dRet (dC (.bl false))) dNext)
  (dSeq (dFor (dIZip (dCons (dVar 0) (dCons (dVar 1) dNil))) (dUnp 2 (dGCons (dName 2) (dGCons (dName 3) dGNil))) (dSeq (dIfS (dOr (dNot (dTr (dIsinst "int" (dVar 2)))) (dOr (dTr (dIsinst "bool" (dVar 2))) (dNot (dTst (dChain pLe pLtI (dC (.int 0)) (dVar 2) (dOp pShl (dC (.int 1)) (dCB pLen (dCons (dVar 3) dNil)))))))) (dRet (dC (.bl false))) dNext)
  (dFor (dIRange (dCons (dCB pLen (dCons (dVar 3) dNil)) dNil)) (dName 4) (dIfS (dTst (dOp (pEq true) (dOp (pEq false) (dOp pBand (dOp pShr (dVar 2) (dVar 4)) (dC (.int 1))) (dC (.int 1))) (dOp pIx (dVar 3) (dVar 4)))) (dRet (dC (.bl false))) dNext))))
  (dRet (dC (.bl true)))))
noncomputable def rowB(l:List Bool):D:=.lst (l.map .bl)
noncomputable def zqD(x:Nat×List Bool):D:=.tup [nD x.1,rowB x.2]
noncomputable def S_q12:DSp:=fun ds h Q=>∃ (t:List Nat) (tr:List (List Bool)),ds=[tD t,.lst (tr.map rowB)]∧t.length=tr.length∧t.length ≤ 6∧(∀ x ∈ t.zip tr,x.2.length ≤ 6∧x.1 < 2 ^ x.2.length∧∀ j,j < x.2.length→x.2[j]?=some (x.1.testBit j))∧Q (.bl true) h
theorem imp_q12:∀ ds h Q,S_q12 ds h Q→runD 5 b_q12 ds h Q:=by
 rintro ds h Q ⟨t,tr,rfl,hl,h6,hx,q⟩
 delta runD b_q12;simp only [List.map_cons,List.map_nil,List.cons_append,List.nil_append,List.length_cons,List.length_nil,List.replicate,Nat.reduceSub,Nat.reduceAdd,Nat.zero_add,Nat.sub_self]
 (try dsimp only);refine seq_intro fun N hN=>?_
 have el:((t.length:Int) == (tr.length:Int))=true:=by rw [hl];exact beq_self_eq_true _
 simp only [tD,List.length_map,el,VV]
 subst hN
 (try dsimp only);refine seq_intro fun N hN=>?_
 simp only [VV]
 have ez:zipD (t.map nD) (tr.map rowB)=(t.zip tr).map zqD:=by
  unfold zipD
  rw [List.zip_map,List.map_map];rfl
 refine ⟨_,_,⟨tr.map rowB,[]⟩,rfl,rfl,by simp [hl],?_⟩
 rw [ez]
 refine forL_map (fun p δ h'=>h'=h∧∃ (x2 x3 x4:Option D),δ=[some (tD t),some (.lst (tr.map rowB)),x2,x3,x4]) ⟨rfl,none,none,none,rfl⟩ (fun _ _ _ _=>Src.ok_nil) ?_ ?_
 ·rintro p ⟨m,row⟩ r δ h' N1 e ⟨rfl,x2,x3,x4,rfl⟩ hN1
  obtain ⟨l6,hm,hb⟩:=hx (m,row) (by rw [e];simp)
  have l6:row.length ≤ 6:=l6
  have hm:m < 2 ^ row.length:=hm
  simp only [zqD,VV]
  refine ⟨trivial,?_⟩
  (try dsimp only);refine seq_intro fun N hN=>?_
  have p1:decide (0 ≤ (m:Int))=true:=decide_eq_true (by first | decide | omega)
  have p2:decide ((m:Int) < 1 * 2 ^ ((row.length:Int)).toNat)=true:=decide_eq_true (by rw [shl1];omega)
  simp only [rowB,List.length_map,p1,p2,VV]
  refine ⟨⟨by first | decide | omega,by first | decide | omega,by decide⟩,?_⟩
  subst hN
  simp only [List.length_map,VV]
  refine ⟨by first | decide | omega,?_⟩
  rw [rangeD_map,Int.toNat_natCast]
  refine forL_map (fun p δ h1=>h1=h'∧∃ (x4:Option D),δ=[some (tD t),some (.lst (tr.map rowB)),some (nD m),some (rowB row),x4]) ⟨rfl,_,rfl⟩ (fun _ _ _ _=>Src.ok_nil) ?_ ?_
  ·rintro p' j r' δ h1 N2 e' ⟨rfl,x4,rfl⟩ hN2
   obtain ⟨_,hj⟩:=range_split e'
   have ib:atI (row.map D.bl) (j:Int)=some (.bl (m.testBit j)):=by
    rw [atN,List.getElem?_map,hb j hj];rfl
   have bb:∀ b:Bool,(b == b)=true:=fun b=>by cases b <;> rfl
   rw [Int.zero_add]
   simp only [rowB,ib,Int.toNat_natCast,bitE,bb,VV]
   exact ⟨by first | decide | omega,hN2 _ _ ⟨rfl,_,rfl⟩⟩
  ·rintro δ h1 ⟨rfl,x4,rfl⟩
   exact hN1 _ _ ⟨rfl,_,_,_,rfl⟩
 ·rintro δ h' ⟨rfl,x2,x3,x4,rfl⟩
  subst hN
  simp only [VV]
  exact q
theorem ok_q12{f:Addr}{fd:FuncData}(F:Fun K "_law_is_table" "_law_is_table" s_q12 f fd)(T:Txt P w K mg):FnOk P w K mg base CX0 1 f fd ["_law_table","_law_truths"] (spD K 2 S_q12) :=
 fn_ok (k:=0) (b:=b_q12) F sc_q12 (fun cdv A outer s H E hr=>by
  refine ss_cons ?_ ?_
  ·refine s_if ?_ ?_ ?_
   ·exact st_w (sw_or (st_not (st_truth (se_isinst (by decide) rfl T.b_isinstance (sv 0) (pe_bltn (v:=.ty "tuple") rfl T.b_tuple PyProof.Rows.boot_tuple rfl)))) (sw_or1 (st_cmp (ok_ne hr.units) (se_callB ok_len rfl T.b_len PySem.boot_len (sa_cons (sv 0) sa_nil)) (se_callB ok_len rfl T.b_len PySem.boot_len (sa_cons (sv 1) sa_nil)) (nomark _))))
   ·refine ss_one ?_
    refine s_ret ?_
    exact se_bl
   exact ss_nil
  refine ss_cons ?_ ?_
  ·refine s_for ?_ ?_ ?_ ?_ ?_
   ·exact PassesOwn.never
   ·exact rfl
   ·exact si_zip rfl T.b_zip (sa_cons (sv 0) (sa_cons (sv 1) sa_nil))
   ·exact sg_tup rfl (sgs_cons (sg_name (i:=2) sc_q12.nd rfl (Or.inl rfl)) (sgs_cons (sg_name (i:=3) sc_q12.nd rfl (Or.inl rfl)) sgs_nil))
   refine ss_cons ?_ ?_
   ·refine s_if ?_ ?_ ?_
    ·exact st_w (sw_or (st_not (st_truth (se_isinst (by decide) rfl T.b_isinstance (sv 2) (pe_bltn (v:=.ty "int") rfl T.b_int PyProof.Rows.boot_int rfl)))) (sw_or (st_truth (se_isinst (by decide) rfl T.b_isinstance (sv 2) (pe_bltn (v:=.ty "bool") rfl T.b_bool PyProof.Rows.boot_bool rfl))) (sw_or1 (st_not (st_chain ok_le ok_ltI se_int (sv 2) (se_op ok_shl se_int (se_callB ok_len rfl T.b_len PySem.boot_len (sa_cons (sv 3) sa_nil))))))))
    ·refine ss_one ?_
     refine s_ret ?_
     exact se_bl
    exact ss_nil
   refine ss_one ?_
   refine s_for ?_ ?_ ?_ ?_ ?_
   ·exact PassesOwn.never
   ·exact rfl
   ·exact si_range1 rfl T.b_range (sa_cons (se_callB ok_len rfl T.b_len PySem.boot_len (sa_cons (sv 3) sa_nil)) sa_nil)
   ·exact sg_name (i:=4) sc_q12.nd rfl (Or.inl rfl)
   refine ss_one ?_
   refine s_if ?_ ?_ ?_
   ·exact st_cmp (ok_ne hr.units) (se_cmp (ok_eq hr.units) (se_op ok_band (se_op ok_shr (sv 2) (sv 4)) se_int) se_int (nomark _)) (se_ix ok_ix (sv 3) (sv 4) (fun _ _=>rfl)) (nomark _)
   ·refine ss_one ?_
    refine s_ret ?_
    exact se_bl
   exact ss_nil
  refine ss_one ?_
  refine s_ret ?_
  exact se_bl) imp_q12
noncomputable def b_q20:DS:=(dSeq (dAsg (dTk dNil) (dName 3))
  (dSeq (dFor (dISeq (dVar 0)) (dUnp 4 (dGCons (dName 4) (dGCons (dName 5) (dGCons (dName 6) (dGCons (dName 7) dGNil))))) (dSeq (dAsg (dSl (dV (dComp [none,some 6] (dISeq (dVar 1)) (dName 0) (dTst (dOp (pIn true) (dVar 0) (dVar 1))) (dVar 0))) dNoPart (dPart (dVar 2))) (dName 8))
  (dDrop (dAppend (dVar 3) (dCons (dTup (dCons (dVar 4) (dCons (dVar 5) (dCons (dOp pCatT (dVar 6) (dCB pTuple (dCons (dVar 8) dNil))) (dCons (dVar 7) dNil))))) dNil)))))
  (dRet (dVar 3))))
theorem inF_str(s:Str)(l:List Str):inF (.str s) (l.map D.str)=l.contains s:=by
 induction l with
 |nil=>rfl
 |cons a r ih =>
  rw [List.contains_cons,← ih]
  unfold inF
  rw [List.map_cons,List.any_cons]
  congr 1
  show (a == s)=(s == a)
  by_cases c:s=a
  ·subst c;rfl
  ·rw [beq_eq_false_iff_ne.mpr c,beq_eq_false_iff_ne.mpr (Ne.symm c)]
theorem flat_strs(l:List Str):(l.map D.str).all flatD=true:=by
 rw [List.all_map];simp [flatD,List.all_eq_true]
noncomputable def wid(nm:List Str)(m:Nat)(F:Fu):Fu:={ F with vars:=F.vars ++ (nm.filter fun s=>!F.vars.contains s).take m }
noncomputable def S_q20:DSp:=fun ds h Q=>∃ (P:List Fu) (nm:List Str) (m:Nat),ds=[.lst (P.map fuD),.lst (nm.map D.str),.int m]∧P.length ≤ 6∧nm.length ≤ 10∧m ≤ 10∧(∀ F ∈ P,F.vars.length ≤ 10)∧Q (.lst ((P.map (wid nm m)).map fuD)) h
theorem nrD_fuD(F:Fu):nrD (fuD F)=true:=by
 have h1:nrDs (F.vars.map D.str)=true:=nrDs_map (fun _=>rfl) _
 have h2:nrDs (F.rows.map roD)=true:=nrDs_map (fun r=>by cases r <;> first | rfl | exact (show (true && (true && (true && (nrDs (List.map nD _) && true))))=true by rw [nrDs_map (fun _=>rfl)];rfl)) _
 show (true && (true && (nrDs (F.vars.map D.str) && (nrDs (F.rows.map roD) && true))))=true
 rw [h1,h2];rfl
theorem imp_q20:∀ ds h Q,S_q20 ds h Q→runD 9 b_q20 ds h (Dr h Q):=by
 rintro ds h Q ⟨P,nm,m,rfl,p6,n10,m10,v10,q⟩
 delta runD b_q20;simp only [List.map_cons,List.map_nil,List.cons_append,List.nil_append,List.length_cons,List.length_nil,List.replicate,Nat.reduceSub,Nat.reduceAdd,Nat.zero_add,Nat.sub_self]
 (try dsimp only);refine seq_intro fun N hN=>?_
 simp only [VV]
 subst hN
 (try dsimp only);refine seq_intro fun N hN=>?_
 simp only [VV]
 refine forL_map (fun p δ h'=>∃ (x4 x5 x6 x7 x8:Option D),δ=[some (.lst (P.map fuD)),some (.lst (nm.map D.str)),some (.int m),some (.ref h.length),x4,x5,x6,x7,x8]∧h'=h ++ [.lst ((p.map (wid nm m)).map fuD)]) ⟨none,none,none,none,none,rfl,rfl⟩ (fun _ _ _ _=>Src.ok_nil) ?_ ?_
 ·rintro p F r δ h' N1 e ⟨x4,x5,x6,x7,x8,rfl,rfl⟩ hN1
  have pl:p.length < P.length:=by rw [e];simp
  have vl:=v10 F (by rw [e];simp)
  simp only [fuD,VV]
  refine ⟨trivial,?_⟩
  (try dsimp only);refine seq_intro fun N hN=>?_
  simp only [VV]
  refine ⟨by rw [List.length_map];omega,?_⟩
  refine comp1 (fun s=>!F.vars.contains s) D.str Src.ok_nil none (fun s hs K k=>?_) (fun s hs _ K k=>?_) ?_
  ·simp only [inF_str,VV]
   exact ⟨by rw [flat_strs];rfl,k⟩
  ·simp only [VV]
   exact k
  ·have fl:(nm.filter fun s=>!F.vars.contains s).length ≤ nm.length:=List.length_filter_le _ _
   have cu:cutD ((nm.filter fun s=>!F.vars.contains s).map D.str) none (some (m:Int))=((nm.filter fun s=>!F.vars.contains s).take m).map D.str:=by
    unfold cutD HT.sIx
    dsimp only
    rw [if_neg (by first | decide | omega),Int.toNat_natCast,List.drop_zero,Nat.sub_zero,List.map_take]
    apply List.ext_getElem?
    intro i
    rw [List.getElem?_take,List.getElem?_take]
    by_cases z:i < (List.map D.str (nm.filter fun s=>!F.vars.contains s)).length
    ·by_cases y:i < m
     ·rw [if_pos (by first | decide | omega),if_pos y]
     ·rw [if_neg (by first | decide | omega),if_neg y]
    ·rw [List.getElem?_eq_none (by first | decide | omega)];split <;> split <;> rfl
   simp only [cu,VV]
   subst hN
   simp only [get_new,set_new,List.length_map,VV]
   refine ⟨by rw [List.length_take];omega,by first | decide | omega,?_⟩
   refine hN1 _ _ ⟨_,_,_,_,_,rfl,?_⟩
   rw [List.map_append,List.map_append]
   show _=h ++ [O.lst ((p.map (wid nm m)).map fuD ++ [fuD (wid nm m F)])]
   unfold fuD wid
   dsimp only
   rw [List.map_append]
 ·rintro δ h' ⟨x4,x5,x6,x7,x8,rfl,rfl⟩
  subst hN
  simp only [VV]
  have:=Dr.dropL (h:=h) (Q:=Q) (xs:=(P.map (wid nm m)).map fuD) (g1:=[]) (g2:=[]) (k:=h.length) (nrDs_map nrD_fuD _) (by simp) q
  simpa using this
theorem ok_q20{f:Addr}{fd:FuncData}(F:Fun K "_law_widened" "_law_widened" s_q20 f fd)(T:Txt P w K mg):FnOk P w K mg base CX0 1 f fd ["_law_program_here","_law_names_here","_law_many"] (spD K 3 S_q20) :=
 fn_okD (k:=0) (b:=b_q20) F sc_q20 (fun cdv A outer s H E hr=>by
  refine ss_cons ?_ ?_
  ·refine s_set (i:=3) ?_ ?_ ?_ ?_
   ·exact sc_q20.nd
   ·exact rfl
   ·exact Or.inl rfl
   exact se_t (sn_lst sa_nil)
  refine ss_cons ?_ ?_
  ·refine s_for ?_ ?_ ?_ ?_ ?_
   ·exact PassesOwn.never
   ·exact rfl
   ·exact si_seq (sv 0)
   ·exact sg_tup rfl (sgs_cons (sg_name (i:=4) sc_q20.nd rfl (Or.inl rfl)) (sgs_cons (sg_name (i:=5) sc_q20.nd rfl (Or.inl rfl)) (sgs_cons (sg_name (i:=6) sc_q20.nd rfl (Or.inr rfl)) (sgs_cons (sg_name (i:=7) sc_q20.nd rfl (Or.inl rfl)) sgs_nil))))
   refine ss_cons ?_ ?_
   ·refine s_set (i:=8) ?_ ?_ ?_ ?_
    ·exact sc_q20.nd
    ·exact rfl
    ·exact Or.inl rfl
    exact se_sl (se_v (sn_comp rfl (N':= ["_law_one","_law_variables"]) (js:=[none,some 6]) ⟨rfl,by decide +kernel,rfl,rfl,rfl⟩ (si_seq (sv 1)) (fun s0 H0 fp=>⟨(sg_name (i:=0) (show (["_law_one","_law_variables"]:List Str).Nodup by decide +kernel) rfl (Or.inl rfl)),(sf_one (st_cmp ok_notin (sv 0) (sv 1) rfl)),(sv 0)⟩))) so_none (so_some (sv 2))
   refine ss_one ?_
   refine s_expr ?_
   exact se_append (sv 3) (sa_cons (se_tup (sa_cons (sv 4) (sa_cons (sv 5) (sa_cons (se_op ok_catT (sv 6) (se_callTy ok_tuple rfl T.b_tuple PyProof.Rows.boot_tuple (sa_cons (sv 8) sa_nil))) (sa_cons (sv 7) sa_nil))))) sa_nil)
  refine ss_one ?_
  refine s_ret ?_
  exact sv 3) imp_q20
noncomputable def b_q6:DS:=(dSeq (dIfS (dNot (dTr (dVar 2))) (dRet (dOp pPlus (dCal S_q19 (dCons (dVar 0) (dCons (dVar 1) dNil))) (dV (dCons (dOp pMod (dOp pDiv (dVar 0) (dC (.int 11))) (dOp pPow (dC (.int 10)) (dC (.int 18)))) dNil)))) dNext)
  (dSeq (dAsg (dTk dNil) (dName 3))
  (dSeq (dAsg (dOp pDiv (dVar 0) (dC (.int 77))) (dName 0))
  (dSeq (dFor (dIRange (dCons (dVar 1) dNil)) (dName 4) (dSeq (dDrop (dAppend (dVar 3) (dCons (dOp pMod (dVar 0) (dC (.int 1000))) dNil)))
  (dAsg (dOp pDiv (dVar 0) (dC (.int 1000))) (dName 0))))
  (dRet (dOp pPlus (dVar 3) (dV (dCons (dOp pMod (dVar 0) (dOp pPow (dC (.int 10)) (dC (.int 18)))) dNil))))))))
noncomputable def S_q6:DSp:=fun ds h Q=>∃ (c:Int) (m:Nat) (b:Bool),ds=[.int c,.int m,.bl b]∧m ≤ 50∧∀ xs:List Int,xs.length=m + 1→Q (.lst (xs.map D.int)) h
theorem imp_q6:∀ ds h Q,S_q6 ds h Q→runD 5 b_q6 ds h (Dr h Q):=by
 rintro ds h Q ⟨c,m,b,rfl,hm,q⟩
 delta runD b_q6;simp only [List.map_cons,List.map_nil,List.cons_append,List.nil_append,List.length_cons,List.length_nil,List.replicate,Nat.reduceSub,Nat.reduceAdd,Nat.zero_add,Nat.sub_self]
 (try dsimp only);refine seq_intro fun N hN=>?_
 cases b with
 |false =>
  simp only [VV]
  refine ⟨c,m,rfl,by first | decide | omega,fun rs hrs=>?_⟩
  simp only [VV]
  refine ⟨by decide,⟨by decide,by decide,by decide⟩,by decide,by rw [List.length_map];omega,?_⟩
  have e9:rs.map D.int ++ [D.int (c / 11 % 10 ^ Int.toNat 18)]=(rs ++ [c / 11 % 10 ^ Int.toNat 18]).map D.int:=by rw [List.map_append];rfl
  rw [e9]
  exact Dr.same (nrDs_map (fun _=>rfl) _) (q _ (by rw [List.length_append,hrs];rfl))
 |true =>
  simp only [VV]
  subst hN
  (try dsimp only);refine seq_intro fun N hN=>?_
  simp only [VV]
  subst hN
  (try dsimp only);refine seq_intro fun N hN=>?_
  simp only [VV]
  refine ⟨by decide,?_⟩
  subst hN
  (try dsimp only);refine seq_intro fun N hN=>?_
  simp only [VV]
  refine ⟨by first | decide | omega,?_⟩
  rw [rangeD_map,Int.toNat_natCast]
  refine forL_map (fun p δ h'=>∃ (xs:List Int) (c:Int) (x4:Option D),δ=[some (.int c),some (.int m),some (.bl true),some (.ref h.length),x4]∧h'=h ++ [.lst (xs.map D.int)]∧xs.length=p.length) ⟨[],_,none,rfl,rfl,rfl⟩ (fun _ _ _ _=>Src.ok_nil) ?_ ?_
  ·rintro p y r δ h' N1 e ⟨xs,c,x4,rfl,rfl,hx⟩ hN1
   obtain ⟨hy,hy2⟩:=range_split e
   simp only [VV]
   (try dsimp only);refine seq_intro fun N hN=>?_
   simp only [get_new,set_new,List.length_map,VV]
   refine ⟨by decide,by first | decide | omega,?_⟩
   subst hN
   simp only [VV]
   refine ⟨by decide,hN1 _ _ ⟨xs ++ [c % 1000],_,_,rfl,by rw [List.map_append];rfl,by simp [hx]⟩⟩
  ·rintro δ h' ⟨xs,c,x4,rfl,rfl,hx⟩
   rw [List.length_range] at hx
   subst hN
   have lp:lsP (h ++ [O.lst (xs.map D.int)]) (.ref h.length)=some (xs.map D.int):=ls_new _ _
   simp only [lp,List.length_map,VV]
   refine ⟨⟨by decide,by decide,by decide⟩,by decide,by first | decide | omega,?_⟩
   have e9:xs.map D.int ++ [D.int (c % 10 ^ Int.toNat 18)]=(xs ++ [c % 10 ^ Int.toNat 18]).map D.int:=by rw [List.map_append];rfl
   rw [e9]
   exact Dr.drop (nrDs_map (fun _=>rfl) _) (q _ (by rw [List.length_append,hx];rfl))
theorem ok_q6{f:Addr}{fd:FuncData}(F:Fun K "_law_drawn" "_law_drawn" s_q6 f fd)(T:Txt P w K mg)(C_q19:Cal P w K mg base 1 "_law_stream" ["_law_cell","_law_many"] (spD K 2 S_q19)):FnOk P w K mg base CX0 2 f fd ["_law_cell","_law_many","_law_free"] (spD K 3 S_q6) :=
 fn_okD (k:=1) (b:=b_q6) F sc_q6 (fun cdv A outer s H E hr=>by
  refine ss_cons ?_ ?_
  ·refine s_if ?_ ?_ ?_
   ·exact st_not (st_truth (sv 2))
   ·refine ss_one ?_
    refine s_ret ?_
    exact se_op ok_plus (se_cal C_q19 (hr.mono (by decide)) rfl (sa_cons (sv 0) (sa_cons (sv 1) sa_nil))) (se_v (sn_lst (sa_cons (se_op ok_mod (se_op ok_div (sv 0) se_int) (se_op ok_pow se_int se_int)) sa_nil)))
   exact ss_nil
  refine ss_cons ?_ ?_
  ·refine s_set (i:=3) ?_ ?_ ?_ ?_
   ·exact sc_q6.nd
   ·exact rfl
   ·exact Or.inl rfl
   exact se_t (sn_lst sa_nil)
  refine ss_cons ?_ ?_
  ·refine s_set (i:=0) ?_ ?_ ?_ ?_
   ·exact sc_q6.nd
   ·exact rfl
   ·exact Or.inl rfl
   exact se_op ok_div (sv 0) se_int
  refine ss_cons ?_ ?_
  ·refine s_for ?_ ?_ ?_ ?_ ?_
   ·exact PassesOwn.never
   ·exact rfl
   ·exact si_range1 rfl T.b_range (sa_cons (sv 1) sa_nil)
   ·exact sg_name (i:=4) sc_q6.nd rfl (Or.inl rfl)
   refine ss_cons ?_ ?_
   ·refine s_expr ?_
    exact se_append (sv 3) (sa_cons (se_op ok_mod (sv 0) se_int) sa_nil)
   refine ss_one ?_
   refine s_set (i:=0) ?_ ?_ ?_ ?_
   ·exact sc_q6.nd
   ·exact rfl
   ·exact Or.inl rfl
   exact se_op ok_div (sv 0) se_int
  refine ss_one ?_
  refine s_ret ?_
  exact se_op ok_plus (sv 3) (se_v (sn_lst (sa_cons (se_op ok_mod (sv 0) (se_op ok_pow se_int se_int)) sa_nil)))) imp_q6
noncomputable def b_q7:DS:=(dSeq (dAsg (dCal S_q6 (dCons (dVar 0) (dCons (dC (.int 8)) (dCons (dVar 4) dNil)))) (dName 5))
  (dSeq (dAsg (dOp pMod (dOp pIx (dVar 5) (dC (.int 0))) (dVar 3)) (dName 6))
  (dSeq (dAsg (dOp pMod (dOp pIx (dVar 5) (dC (.int 1))) (dVar 3)) (dName 7))
  (dSeq (dAsg (dOp pMod (dVar 0) (dC (.int 11))) (dName 8))
  (dSeq (dIfS (dTst (dOp (pEq false) (dVar 8) (dC (.int 0)))) (dRet (dTup (dCons (dC (.str "number")) (dCons (dVar 6) (dCons (dOp pIx (dV (dCons (dOp pMod (dOp pIx (dVar 5) (dC (.int 1))) (dC (.int 3))) (dCons (dOp pIx (dVar 5) (dC (.int 8))) dNil))) (dOp pMod (dOp pIx (dVar 5) (dC (.int 2))) (dC (.int 2)))) dNil))))) dNext)
  (dSeq (dIfS (dTst (dOp (pEq false) (dVar 8) (dC (.int 1)))) (dRet (dTup (dCons (dC (.str "copy")) (dCons (dVar 6) (dCons (dVar 7) dNil))))) dNext)
  (dSeq (dIfS (dTst (dOp pLtI (dVar 8) (dC (.int 4)))) (dRet (dTup (dCons (dC (.str "does")) (dCons (dVar 6) (dCons (dOp pIx (dC (.str "+-*")) (dOp pMod (dOp pIx (dVar 5) (dC (.int 3))) (dC (.int 3)))) (dCons (dVar 7) (dCons (dOp pMod (dOp pIx (dVar 5) (dC (.int 2))) (dVar 3)) dNil))))))) dNext)
  (dSeq (dIfS (dTst (dOp pLtI (dVar 8) (dC (.int 6)))) (dRet (dTup (dCons (dOp pIx (dV (dCons (dC (.str "dye")) (dCons (dC (.str "wash")) dNil))) (dOp pSub (dVar 8) (dC (.int 4)))) (dCons (dVar 6) dNil)))) dNext)
  (dSeq (dIfS (dTst (dOp (pEq false) (dVar 8) (dC (.int 6)))) (dRet (dTup (dCons (dC (.str "if")) (dCons (dVar 6) (dCons (dOp pMod (dOp pIx (dVar 5) (dC (.int 1))) (dVar 2)) dNil))))) dNext)
  (dSeq (dIfS (dTst (dOp (pEq false) (dVar 8) (dC (.int 7)))) (dRet (dTup (dCons (dC (.str "to")) (dCons (dOp pMod (dOp pIx (dVar 5) (dC (.int 1))) (dVar 2)) dNil)))) dNext)
  (dSeq (dIfS (dTst (dOp (pEq false) (dVar 8) (dC (.int 8)))) (dRet (dTup (dCons (dC (.str "return")) (dCons (dVar 6) dNil)))) dNext)
  (dSeq (dAsg (dOp pMod (dOp pIx (dVar 5) (dC (.int 1))) (dCB pLen (dCons (dVar 1) dNil))) (dName 9))
  (dRet (dTup (dCons (dC (.str "call")) (dCons (dVar 6) (dCons (dVar 9) (dCons (dCB pTuple (dCons (dV (dComp [none,some 5,some 3] (dIRange (dCons (dOp pIx (dVar 1) (dVar 9)) dNil)) (dName 0) dNoIf (dOp pMod (dOp pIx (dVar 1) (dOp pPlus (dC (.int 4)) (dVar 0))) (dVar 2)))) dNil)) dNil))))))))))))))))))
noncomputable def wtR:Rw→Nat
 |.ifq _ _=>2
 |_=>1
noncomputable def rdOk(L many:Nat)(gv:List Nat)(r:Rw):Prop:=(∀ x ∈ labs r,x < L)∧(labs r).length ≤ 10∧match r with
 |.ifq _ q=>q < many
 |.to q=>q < many
 |.call _ g ys=>gv[g]?=some ys.length
 |.does _ o _ _=>PyData.strOk o=true
 |_=>True
theorem mdN(a:Int)(n:Nat)(h:0 < n):∃ x:Nat,x < n∧a % (n:Int)=(x:Int) :=
 ⟨(a % (n:Int)).toNat,by have:=Int.emod_lt_of_pos a (show (0:Int) < n by first | decide | omega);have:=Int.emod_nonneg a (show (n:Int) ≠ 0 by first | decide | omega);omega,by have:=Int.emod_nonneg a (show (n:Int) ≠ 0 by first | decide | omega);omega⟩
noncomputable def S_q7:DSp:=fun ds h Q=>∃ (c:Int) (gv:List Nat) (many L:Nat) (b:Bool),ds=[.int c,.lst (gv.map nD),.int many,.int L,.bl b]∧1 ≤ L∧L ≤ 10∧1 ≤ many∧many ≤ 100∧1 ≤ gv.length∧gv.length ≤ 6∧(∀ k ∈ gv,k ≤ 4)∧∀ r:Rw,rdOk L many gv r→(wtR r=2→c % 11=6)→Q (roD r) h
theorem imp_q7:∀ ds h Q,S_q7 ds h Q→runD 10 b_q7 ds h Q:=by
 rintro ds h Q ⟨c,gv,many,L,b,rfl,l1,l2,m1,m2,g1,g2,g4,q⟩
 delta runD b_q7;simp only [List.map_cons,List.map_nil,List.cons_append,List.nil_append,List.length_cons,List.length_nil,List.replicate,Nat.reduceSub,Nat.reduceAdd,Nat.zero_add,Nat.sub_self]
 (try dsimp only);refine seq_intro fun N hN=>?_
 simp only [VV]
 refine ⟨c,8,b,rfl,by decide,fun xs hxs=>?_⟩
 match xs,hxs with
 |[a0,a1,a2,a3,a4,a5,a6,a7,a8],_ =>
 generalize hX:D.lst ([a0,a1,a2,a3,a4,a5,a6,a7,a8].map D.int)=X
 have i0:∀ h',ixD h' X (.int 0)=some (.int a0):=fun _=>by subst hX;rfl
 have i1:∀ h',ixD h' X (.int 1)=some (.int a1):=fun _=>by subst hX;rfl
 have i2:∀ h',ixD h' X (.int 2)=some (.int a2):=fun _=>by subst hX;rfl
 have i3:∀ h',ixD h' X (.int 3)=some (.int a3):=fun _=>by subst hX;rfl
 have i8:∀ h',ixD h' X (.int 8)=some (.int a8):=fun _=>by subst hX;rfl
 have i4:∀ (h':Hh) (k:Nat),k < 4→∃ a,ixD h' X (.int (4 + (k:Int)))=some (.int a):=fun h' k hk=>by
  subst hX
  have:k=0∨k=1∨k=2∨k=3:=by first | decide | omega
  rcases this with rfl | rfl | rfl | rfl
  ·exact ⟨a4,rfl⟩
  ·exact ⟨a5,rfl⟩
  ·exact ⟨a6,rfl⟩
  ·exact ⟨a7,rfl⟩
 clear hX
 have nz:(L:Int) ≠ 0:=by first | decide | omega
 obtain ⟨x,hx,ex⟩:=mdN a0 L l1
 obtain ⟨y,hy,ey⟩:=mdN a1 L l1
 obtain ⟨z,hz,ez⟩:=mdN a2 L l1
 obtain ⟨t,ht,et⟩:=mdN a1 many m1
 obtain ⟨g,hg,eg⟩:=mdN a1 gv.length g1
 subst hN
 (try dsimp only);refine seq_intro fun N hN=>?_
 simp only [i0,VV]
 refine ⟨by first | decide | omega,?_⟩
 rw [ex]
 subst hN
 (try dsimp only);refine seq_intro fun N hN=>?_
 simp only [i1,VV]
 refine ⟨by first | decide | omega,?_⟩
 rw [ey]
 subst hN
 (try dsimp only);refine seq_intro fun N hN=>?_
 simp only [VV]
 refine ⟨by decide,?_⟩
 obtain ⟨way,hw,ew⟩:=mdN c 11 (by decide)
 have ew:c % 11=(way:Int):=ew
 rw [ew]
 have qq:∀ r:Rw,rdOk L many gv r→wtR r=1→Q (roD r) h:=fun r h1 h2=>q r h1 (fun z=>by first | decide | omega)
 subst hN
 (try dsimp only);refine seq_intro fun N hN=>?_
 by_cases w0:way=0
 ·have e:((way:Int) == 0)=true:=by simp [w0]
  simp only [e,i1,i2,i8,VV]
  obtain ⟨k,ek⟩:∃ k:Int,atI [D.int (a1 % 3),D.int a8] (a2 % 2)=some (.int k):=by
   have:a2 % 2=0∨a2 % 2=1:=by first | decide | omega
   rcases this with z | z <;> rw [z]
   ·exact ⟨_,rfl⟩
   ·exact ⟨_,rfl⟩
  refine ⟨by decide,by decide,?_⟩
  rw [ek]
  exact qq (.num x k) ⟨by simp [labs];omega,Nat.le_of_ble_eq_true rfl,trivial⟩ rfl
 ·have e:((way:Int) == 0)=false:=by simp [w0]
  simp only [e,VV]
  subst hN
  (try dsimp only);refine seq_intro fun N hN=>?_
  by_cases w1:way=1
  ·have e:((way:Int) == 1)=true:=by simp [w1]
   simp only [e,VV]
   exact qq (.copy x y) ⟨by simp [labs];omega,Nat.le_of_ble_eq_true rfl,trivial⟩ rfl
  ·have e:((way:Int) == 1)=false:=by simp;omega
   simp only [e,VV]
   subst hN
   (try dsimp only);refine seq_intro fun N hN=>?_
   by_cases w2:(way:Int) < 4
   ·simp only [w2,i2,i3,VV]
    obtain ⟨o,eo,ok_⟩:∃ o:Str,ixD h (.str "+-*") (.int (a3 % 3))=some (.str o)∧PyData.strOk o=true:=by
     have:a3 % 3=0∨a3 % 3=1∨a3 % 3=2:=by first | decide | omega
     rcases this with z | z | z <;> rw [z]
     ·exact ⟨"+",by kernel_rfl,by kernel_rfl⟩
     ·exact ⟨"-",by kernel_rfl,by kernel_rfl⟩
     ·exact ⟨"*",by kernel_rfl,by kernel_rfl⟩
    refine ⟨by decide,?_⟩
    rw [eo]
    refine ⟨by first | decide | omega,?_⟩
    rw [ez]
    exact qq (.does x o y z) ⟨by simp [labs];omega,Nat.le_of_ble_eq_true rfl,ok_⟩ rfl
   ·simp only [w2,VV]
    subst hN
    (try dsimp only);refine seq_intro fun N hN=>?_
    by_cases w3:(way:Int) < 6
    ·simp only [w3,VV]
     have:way=4∨way=5:=by first | decide | omega
     rcases this with rfl | rfl
     ·exact qq (.dye x) ⟨by simp [labs];omega,Nat.le_of_ble_eq_true rfl,trivial⟩ rfl
     ·exact qq (.wash x) ⟨by simp [labs];omega,Nat.le_of_ble_eq_true rfl,trivial⟩ rfl
    ·simp only [w3,VV]
     subst hN
     (try dsimp only);refine seq_intro fun N hN=>?_
     by_cases w4:way=6
     ·have e:((way:Int) == 6)=true:=by simp [w4]
      simp only [e,i1,VV]
      refine ⟨by first | decide | omega,?_⟩
      rw [et]
      exact q (.ifq x t) ⟨by simp [labs];omega,Nat.le_of_ble_eq_true rfl,ht⟩ (fun _=>by first | decide | omega)
     ·have e:((way:Int) == 6)=false:=by simp;omega
      simp only [e,VV]
      subst hN
      (try dsimp only);refine seq_intro fun N hN=>?_
      by_cases w5:way=7
      ·have e:((way:Int) == 7)=true:=by simp [w5]
       simp only [e,i1,VV]
       refine ⟨by first | decide | omega,?_⟩
       rw [et]
       exact qq (.to t) ⟨by simp [labs],Nat.le_of_ble_eq_true rfl,ht⟩ rfl
      ·have e:((way:Int) == 7)=false:=by simp;omega
       simp only [e,VV]
       subst hN
       (try dsimp only);refine seq_intro fun N hN=>?_
       by_cases w6:way=8
       ·have e:((way:Int) == 8)=true:=by simp [w6]
        simp only [e,VV]
        exact qq (.ret x) ⟨by simp [labs];omega,Nat.le_of_ble_eq_true rfl,trivial⟩ rfl
       ·have e:((way:Int) == 8)=false:=by simp;omega
        simp only [e,VV]
        subst hN
        (try dsimp only);refine seq_intro fun N hN=>?_
        simp only [i1,List.length_map,VV]
        refine ⟨by first | decide | omega,?_⟩
        rw [eg]
        subst hN
        have gx:gv[g]?=some gv[g]:=List.getElem?_eq_getElem hg
        have gk:=g4 _ (List.getElem_mem hg)
        have ig:atI (gv.map nD) (g:Int)=some (nD gv[g]):=by rw [atN,List.getElem?_map,gx];rfl
        simp only [ig,VV]
        refine ⟨⟨by first | decide | omega,by first | decide | omega⟩,by rw [rangeD_length];omega,?_⟩
        rw [rangeD_map,Int.toNat_natCast]
        refine compL_map (fun p a δ h'=>h'=h∧(∃ o,δ=[o,some X,some (.int (L:Int))])∧∃ ys:List Nat,a=ys.map nD∧ys.length=p.length∧∀ y ∈ ys,y < L) ⟨rfl,⟨_,rfl⟩,[],rfl,rfl,fun y hy=>nomatch hy⟩ (fun _ _ _ _ _=>Src.ok_nil) ?_ ?_
        ·rintro p k r acc δ h' N e ⟨rfl,⟨o,rfl⟩,ys,rfl,lv,lt⟩ hN
         obtain ⟨_,hk⟩:=range_split e
         obtain ⟨a,ea⟩:=i4 h' k (by first | decide | omega)
         obtain ⟨v,hv,ev⟩:=mdN a L l1
         rw [Int.zero_add]
         simp only [ea,VV]
         refine ⟨by first | decide | omega,?_⟩
         rw [ev]
         refine hN _ _ _ ⟨rfl,⟨_,rfl⟩,ys ++ [v],by rw [List.map_append];rfl,by simp [lv],fun w hw=>?_⟩
         rcases List.mem_append.mp hw with z | z
         ·exact lt w z
         ·rw [List.mem_singleton.mp z];exact hv
        ·rintro a δ h' ⟨rfl,_,ys,rfl,lv,lt⟩
         rw [List.length_range] at lv
         refine qq (.call x g ys) ⟨fun w hw=>?_,(show ys.length + 1 ≤ 10 by first | decide | omega),(show gv[g]?=some ys.length by rw [gx,lv])⟩ rfl
         rcases List.mem_cons.mp hw with z | z
         ·rw [z];exact hx
         ·exact lt w z
theorem ok_q7{f:Addr}{fd:FuncData}(F:Fun K "_law_drawn_row" "_law_drawn_row" s_q7 f fd)(T:Txt P w K mg)(C_q6:Cal P w K mg base 2 "_law_drawn" ["_law_cell","_law_many","_law_free"] (spD K 3 S_q6)):FnOk P w K mg base CX0 3 f fd ["_law_cell","_law_gives","_law_many","_law_labels_here","_law_free"] (spD K 5 S_q7) :=
 fn_ok (k:=2) (b:=b_q7) F sc_q7 (fun cdv A outer s H E hr=>by
  refine ss_cons ?_ ?_
  ·refine s_set (i:=5) ?_ ?_ ?_ ?_
   ·exact sc_q7.nd
   ·exact rfl
   ·exact Or.inr rfl
   exact se_cal C_q6 (hr.mono (by decide)) rfl (sa_cons (sv 0) (sa_cons se_int (sa_cons (sv 4) sa_nil)))
  refine ss_cons ?_ ?_
  ·refine s_set (i:=6) ?_ ?_ ?_ ?_
   ·exact sc_q7.nd
   ·exact rfl
   ·exact Or.inl rfl
   exact se_op ok_mod (se_ix ok_ix (sv 5) se_int (fun _ _=>rfl)) (sv 3)
  refine ss_cons ?_ ?_
  ·refine s_set (i:=7) ?_ ?_ ?_ ?_
   ·exact sc_q7.nd
   ·exact rfl
   ·exact Or.inl rfl
   exact se_op ok_mod (se_ix ok_ix (sv 5) se_int (fun _ _=>rfl)) (sv 3)
  refine ss_cons ?_ ?_
  ·refine s_set (i:=8) ?_ ?_ ?_ ?_
   ·exact sc_q7.nd
   ·exact rfl
   ·exact Or.inl rfl
   exact se_op ok_mod (sv 0) se_int
  refine ss_cons ?_ ?_
  ·refine s_if ?_ ?_ ?_
   ·exact st_cmp (ok_eq hr.units) (sv 8) se_int (nomark _)
   ·refine ss_one ?_
    refine s_ret ?_
    refine se_tup (n:=3) ?_
    refine sa_cons ?_ ?_
    ·exact se_str
    refine sa_cons ?_ ?_
    ·exact sv 6
    refine sa_cons ?_ ?_
    ·exact se_ix ok_ix (se_v (sn_lst (sa_cons (se_op ok_mod (se_ix ok_ix (sv 5) se_int (fun _ _=>rfl)) se_int) (sa_cons (se_ix ok_ix (sv 5) se_int (fun _ _=>rfl)) sa_nil)))) (se_op ok_mod (se_ix ok_ix (sv 5) se_int (fun _ _=>rfl)) se_int) (fun _ _=>rfl)
    exact sa_nil
   exact ss_nil
  refine ss_cons ?_ ?_
  ·refine s_if ?_ ?_ ?_
   ·exact st_cmp (ok_eq hr.units) (sv 8) se_int (nomark _)
   ·refine ss_one ?_
    refine s_ret ?_
    refine se_tup (n:=3) ?_
    refine sa_cons ?_ ?_
    ·exact se_str
    refine sa_cons ?_ ?_
    ·exact sv 6
    refine sa_cons ?_ ?_
    ·exact sv 7
    exact sa_nil
   exact ss_nil
  refine ss_cons ?_ ?_
  ·refine s_if ?_ ?_ ?_
   ·exact st_cmp ok_ltI (sv 8) se_int (nomark _)
   ·refine ss_one ?_
    refine s_ret ?_
    refine se_tup (n:=5) ?_
    refine sa_cons ?_ ?_
    ·exact se_str
    refine sa_cons ?_ ?_
    ·exact sv 6
    refine sa_cons ?_ ?_
    ·exact se_ix ok_ix se_str (se_op ok_mod (se_ix ok_ix (sv 5) se_int (fun _ _=>rfl)) se_int) (fun _ _=>rfl)
    refine sa_cons ?_ ?_
    ·exact sv 7
    refine sa_cons ?_ ?_
    ·exact se_op ok_mod (se_ix ok_ix (sv 5) se_int (fun _ _=>rfl)) (sv 3)
    exact sa_nil
   exact ss_nil
  refine ss_cons ?_ ?_
  ·refine s_if ?_ ?_ ?_
   ·exact st_cmp ok_ltI (sv 8) se_int (nomark _)
   ·refine ss_one ?_
    refine s_ret ?_
    refine se_tup (n:=2) ?_
    refine sa_cons ?_ ?_
    ·exact se_ix ok_ix (se_v (sn_lst (sa_cons se_str (sa_cons se_str sa_nil)))) (se_op ok_sub (sv 8) se_int) (fun _ _=>rfl)
    refine sa_cons ?_ ?_
    ·exact sv 6
    exact sa_nil
   exact ss_nil
  refine ss_cons ?_ ?_
  ·refine s_if ?_ ?_ ?_
   ·exact st_cmp (ok_eq hr.units) (sv 8) se_int (nomark _)
   ·refine ss_one ?_
    refine s_ret ?_
    refine se_tup (n:=3) ?_
    refine sa_cons ?_ ?_
    ·exact se_str
    refine sa_cons ?_ ?_
    ·exact sv 6
    refine sa_cons ?_ ?_
    ·exact se_op ok_mod (se_ix ok_ix (sv 5) se_int (fun _ _=>rfl)) (sv 2)
    exact sa_nil
   exact ss_nil
  refine ss_cons ?_ ?_
  ·refine s_if ?_ ?_ ?_
   ·exact st_cmp (ok_eq hr.units) (sv 8) se_int (nomark _)
   ·refine ss_one ?_
    refine s_ret ?_
    refine se_tup (n:=2) ?_
    refine sa_cons ?_ ?_
    ·exact se_str
    refine sa_cons ?_ ?_
    ·exact se_op ok_mod (se_ix ok_ix (sv 5) se_int (fun _ _=>rfl)) (sv 2)
    exact sa_nil
   exact ss_nil
  refine ss_cons ?_ ?_
  ·refine s_if ?_ ?_ ?_
   ·exact st_cmp (ok_eq hr.units) (sv 8) se_int (nomark _)
   ·refine ss_one ?_
    refine s_ret ?_
    refine se_tup (n:=2) ?_
    refine sa_cons ?_ ?_
    ·exact se_str
    refine sa_cons ?_ ?_
    ·exact sv 6
    exact sa_nil
   exact ss_nil
  refine ss_cons ?_ ?_
  ·refine s_set (i:=9) ?_ ?_ ?_ ?_
   ·exact sc_q7.nd
   ·exact rfl
   ·exact Or.inl rfl
   exact se_op ok_mod (se_ix ok_ix (sv 5) se_int (fun _ _=>rfl)) (se_callB ok_len rfl T.b_len PySem.boot_len (sa_cons (sv 1) sa_nil))
  refine ss_one ?_
  refine s_ret ?_
  refine se_tup (n:=4) ?_
  refine sa_cons ?_ ?_
  ·exact se_str
  refine sa_cons ?_ ?_
  ·exact sv 6
  refine sa_cons ?_ ?_
  ·exact sv 9
  refine sa_cons ?_ ?_
  ·exact se_callTy ok_tuple rfl T.b_tuple PyProof.Rows.boot_tuple (sa_cons (se_v (sn_comp rfl (N':= ["_law_k","_law_xs","_law_labels_here"]) (js:=[none,some 5,some 3]) ⟨rfl,by decide +kernel,rfl,rfl,rfl⟩ (si_range1 rfl T.b_range (sa_cons (se_ix ok_ix (sv 1) (sv 9) (fun _ _=>rfl)) sa_nil)) (fun s0 H0 fp=>⟨(sg_name (i:=0) (show (["_law_k","_law_xs","_law_labels_here"]:List Str).Nodup by decide +kernel) rfl (Or.inl rfl)),sf_nil,(se_op ok_mod (se_ix ok_ix (sv 1) (se_op ok_plus se_int (sv 0)) (fun _ _=>rfl)) (sv 2))⟩))) sa_nil)
  exact sa_nil) imp_q7
noncomputable def b_q11:DS:=(dSeq (dIfS (dOr (dNot (dTr (dIsinst "tuple" (dVar 0)))) (dOr (dTst (dOp (pEq true) (dSl (dVar 0) dNoPart (dPart (dC (.int 5)))) (dTup (dCons (dC (.str "call")) (dCons (dVar 2) (dCons (dOp pPlus (dVar 2) (dC (.int 1))) (dCons (dC (.int 1)) (dCons (dOp pIx (dVar 1) (dC (.int 2))) dNil)))))))) (dTst (dOp (pEq true) (dCB pLen (dCons (dVar 0) dNil)) (dC (.int 8)))))) (dRet (dC (.bl false))) dNext)
  (dSeq (dAsg (dV (dComp [none,some 4,some 1] (dIRange (dCons (dVar 3) dNil)) (dName 0) dNoIf (dV (dComp [none,some 2,some 0] (dIRange (dCons (dVar 1) dNil)) (dName 0) dNoIf (dCal S_q10 (dCons (dVar 1) (dCons (dVar 2) (dCons (dVar 0) dNil)))))))) (dName 5))
  (dSeq (dAsg (dV (dComp [none,some 3,some 1,some 4] (dIRange (dCons (dVar 4) dNil)) (dName 0) dNoIf (dV (dComp [none,some 2,some 0,some 3] (dIRange (dCons (dVar 1) dNil)) (dName 0) dNoIf (dCal S_q1 (dCons (dVar 1) (dCons (dVar 2) (dCons (dVar 0) (dCons (dVar 3) dNil))))))))) (dName 6))
  (dSeq (dAsg (dV (dComp [none,some 3,some 1] (dIRange (dCons (dVar 3) dNil)) (dName 0) dNoIf (dV (dComp [none,some 2,some 0] (dIRange (dCons (dVar 1) dNil)) (dName 0) dNoIf (dCal S_q15 (dCons (dVar 1) (dCons (dVar 2) (dCons (dVar 0) dNil)))))))) (dName 7))
  (dRet (dAndV (dCal S_q12 (dCons (dOp pIx (dVar 0) (dC (.int 5))) (dCons (dVar 5) dNil))) (dAndV (dCal S_q12 (dCons (dOp pIx (dVar 0) (dC (.int 6))) (dCons (dVar 6) dNil))) (dCal S_q12 (dCons (dOp pIx (dVar 0) (dC (.int 7))) (dCons (dVar 7) dNil))))))))))
theorem ei_get{s t:List Nat}{d:Nat}(hl:s.length=t.length)(hd:d < s.length):(eiT s t).getD d 0=s.getD d 0 ||| t.getD d 0:=by
 unfold eiT
 rw [List.getD_eq_getElem?_getD,List.getD_eq_getElem?_getD,List.getD_eq_getElem?_getD,List.getElem?_map,List.getElem?_eq_getElem (by rw [List.length_zip];omega),List.getElem?_eq_getElem hd,List.getElem?_eq_getElem (by first | decide | omega),List.getElem_zip]
 rfl
theorem ei_bit{s t:List Nat}{d e:Nat}(hl:s.length=t.length)(hd:d < s.length):((eiT s t).getD d 0).testBit e=((s.getD d 0).testBit e || (t.getD d 0).testBit e):=by
 rw [ei_get hl hd,Nat.testBit_or]
theorem sm_bit{n d e:Nat}(hd:d < n):((smT n).getD d 0).testBit e=decide (d=e):=by
 unfold smT
 rw [List.getD_eq_getElem?_getD,List.getElem?_map,List.getElem?_range hd]
 show (2 ^ d).testBit e=_
 rw [Nat.testBit_two_pow]
theorem ga_bit{n:Nat}{ps:List (Nat×Nat)}(h:∀ p ∈ ps,p.1 < n)(d e:Nat):((gath n ps).getD d 0).testBit e=decide ((d,e) ∈ ps):=by
 rw [Bool.eq_iff_iff,decide_eq_true_iff]
 exact gath_bit h d e
theorem wo_mem{n:Nat}{fs:List Nat}{d e:Nat}:(d,e) ∈ woL n fs ↔ d=e∧d < n∧d ∉ fs:=by
 unfold woL
 rw [List.mem_map]
 constructor
 ·rintro ⟨x,hx,h⟩
  cases h
  obtain ⟨h1,h2⟩:=List.mem_filter.mp hx
  exact ⟨rfl,List.mem_range.mp h1,by simpa using h2⟩
 ·rintro ⟨rfl,h1,h2⟩
  exact ⟨d,List.mem_filter.mpr ⟨List.mem_range.mpr h1,by simpa using h2⟩,rfl⟩
theorem tab_ok{t:List Nat}{n m:Nat}{B:Nat→Nat→Bool}(hl:t.length=n)(hm:m ≤ 6)(hb:∀ d,d < n→∀ e,(t.getD d 0).testBit e=B d e)(hz:∀ d,d < n→∀ e,B d e=true→e < m) :
  ∀ x ∈ t.zip ((List.range n).map fun d=>(List.range m).map (B d)),x.2.length ≤ 6∧x.1 < 2 ^ x.2.length∧∀ j,j < x.2.length→x.2[j]?=some (x.1.testBit j):=by
 rintro ⟨a,l⟩ hx
 obtain ⟨i,hi⟩:=List.mem_iff_getElem?.mp hx
 obtain ⟨h1,h2⟩:=List.getElem?_zip_eq_some.mp hi
 have h1:t[i]?=some a:=h1
 have hin:i < n:=by rw [← hl];exact (List.getElem?_eq_some_iff.mp h1).1
 have h2:((List.range n).map fun d=>(List.range m).map (B d))[i]?=some l:=h2
 rw [List.getElem?_map,List.getElem?_range hin] at h2
 cases h2
 have ga:t.getD i 0=a:=by rw [List.getD_eq_getElem?_getD,h1];rfl
 dsimp only
 rw [List.length_map,List.length_range]
 refine ⟨hm,Nat.lt_pow_two_of_testBit _ fun j hj=>?_,fun j hj=>?_⟩
 ·rw [← ga,hb i hin]
  cases z:B i j with
  |false=>rfl
  |true=>have:=hz i hin j z;omega
 ·rw [List.getElem?_map,List.getElem?_range hj,← ga,hb i hin];rfl
noncomputable def S_q11:DSp:=fun ds h Q=>∃ (n m p x g:Nat) (ys:List Nat),ds=[eD (caE n m p x g ys),roD (.call x g ys),.int p,.int n,.int m]∧2 ≤ n∧n ≤ 6∧2 ≤ m∧m ≤ 6∧1 + x < n∧(∀ y ∈ ys,1 + y < n)∧ys.length + 1 < m∧Q (.bl true) h
theorem in_bit{n:Nat}{ys:List Nat}(hn:2 ≤ n)(hy:∀ y ∈ ys,1 + y < n)(d e:Nat):((gath n ((0,0) :: ys.zipIdx.map fun y=>(1 + y.1,1 + y.2))).getD d 0).testBit e=intoB ys d e:=by
 rw [ga_bit]
 ·unfold intoB
  rw [Bool.eq_iff_iff,decide_eq_true_iff,List.mem_cons]
  by_cases z:e=0
  ·rw [if_pos z,decide_eq_true_iff]
   constructor
   ·rintro (h | h)
    ·cases h;rfl
    ·obtain ⟨x,_,hx⟩:=List.mem_map.mp h
     cases hx;omega
   ·rintro rfl;subst z;exact .inl rfl
  ·rw [if_neg z,Bool.and_eq_true,decide_eq_true_iff,decide_eq_true_iff]
   constructor
   ·rintro (h | h)
    ·cases h;exact absurd rfl z
    ·obtain ⟨⟨y,i⟩,hx,hh⟩:=List.mem_map.mp h
     cases hh
     rw [List.mem_zipIdx_iff_getElem?] at hx
     have hx:ys[i]?=some y:=hx
     have:=(List.getElem?_eq_some_iff.mp hx).1
     refine ⟨by first | decide | omega,?_⟩
     rw [show 1 + i - 1=i by first | decide | omega,List.getD_eq_getElem?_getD,hx];rfl
   ·rintro ⟨h1,rfl⟩
    refine .inr (List.mem_map.mpr ⟨(ys.getD (e - 1) 0,e - 1),?_,?_⟩)
    ·rw [List.mem_zipIdx_iff_getElem?,List.getD_eq_getElem?_getD,List.getElem?_eq_getElem (by first | decide | omega)];rfl
    ·show (1 + ys.getD (e - 1) 0,1 + (e - 1))=_
     rw [show 1 + (e - 1)=e by first | decide | omega]
 ·intro p hp
  rcases List.mem_cons.mp hp with h | h
  ·rw [h];show 0 < n;omega
  ·obtain ⟨⟨y,i⟩,hx,rfl⟩:=List.mem_map.mp h
   rw [List.mem_zipIdx_iff_getElem?] at hx
   exact hy y (List.mem_of_getElem? hx)
theorem bk_bit{m x:Nat}(hm:2 ≤ m)(d e:Nat):((gath m [(0,0),(m - 1,1 + x)]).getD d 0).testBit e=backB x m d e:=by
 rw [ga_bit]
 ·unfold backB
  rw [Bool.eq_iff_iff,decide_eq_true_iff]
  simp
  omega
 ·intro p hp
  simp at hp
  rcases hp with h | h <;> rw [h] <;> show _ < m <;> dsimp only <;> omega
theorem ov_bit{n x:Nat}(d e:Nat)(hd:d < n):((gath n (woL n [0,1 + x])).getD d 0).testBit e=overB x d e:=by
 rw [ga_bit (fun p hp=>(woL_lt hp).1)]
 unfold overB
 rw [Bool.eq_iff_iff,decide_eq_true_iff,wo_mem]
 simp
 omega
theorem imp_q11:∀ ds h Q,S_q11 ds h Q→runD 8 b_q11 ds h Q:=by
 rintro ds h Q ⟨n,m,p,x,g,ys,rfl,n2,n6,m2,m6,hx,hy,yl,q⟩
 generalize hi:gath n ((0,0) :: ys.zipIdx.map fun y=>(1 + y.1,1 + y.2))=ti
 generalize hb:gath m [(0,0),(m - 1,1 + x)]=tb'
 generalize ho:gath n (woL n [0,1 + x])=to
 have eE:eD (caE n m p x g ys) = .tup [.str "call",.int (p:Int),.int ((p:Int) + 1),.int 1,.int (g:Int),tD ti,tD tb',tD to]:=by
  subst hi hb ho
  show D.tup [.str "call",nD p,nD (p + 1),nD 1,nD g,tD _,tD _,tD _]=_
  rw [show nD (p + 1) = .int ((p:Int) + 1) from congrArg D.int (Int.natCast_add _ _)];rfl
 have lr:∀ k:Nat,k ≤ 6→(rangeD 0 k).length ≤ 16777216:=fun k hk=>by rw [rangeD_length];omega
 rw [eE]
 delta runD b_q11;simp only [List.map_cons,List.map_nil,List.cons_append,List.nil_append,List.length_cons,List.length_nil,List.replicate,Nat.reduceSub,Nat.reduceAdd,Nat.zero_add,Nat.sub_self]
 (try dsimp only);refine seq_intro fun N hN=>?_
 have cu:cutD [D.str "call",.int (p:Int),.int ((p:Int) + 1),.int 1,.int (g:Int),tD ti,tD tb',tD to] none (some 5)=[.str "call",.int (p:Int),.int ((p:Int) + 1),.int 1,.int (g:Int)]:=rfl
 simp only [roD,cu,VV0]
 refine pEq_same rfl (Pd.tup (n:=0) (.cons (.str sk_call) (.cons (.int _) (.cons (.int _) (.cons (.int _) (.cons (.int _) .nil)))))) (Pd.tup (n:=0) (.cons (.str sk_call) (.cons (.int _) (.cons (.int _) (.cons (.int _) (.cons (.int _) .nil)))))) (by decide) ?_
 have e8:(((8:Nat):Int) == 8)=true:=rfl
 simp only [e8,VV]
 subst hN
 (try dsimp only);refine seq_intro fun N hN=>?_
 simp only [VV]
 refine ⟨⟨by first | decide | omega,by first | decide | omega⟩,by rw [rangeD_length];omega,?_⟩
 rw [rangeD_map,Int.toNat_natCast]
 refine comp1n (fun one:Nat=>rowB ((List.range m).map (intoB ys one))) Src.ok_nil none (fun one hone K k=>?_) ?_
 ·have hone:=List.mem_range.mp hone
  simp only [VV]
  refine ⟨⟨by first | decide | omega,by first | decide | omega⟩,by rw [rangeD_length];omega,?_⟩
  rw [rangeD_map,Int.toNat_natCast]
  refine comp1n (fun other:Nat=>D.bl (intoB ys one other)) Src.ok_nil none (fun other ho K k=>?_) ?_
  ·simp only [VV]
   exact ⟨x,g,ys,one,other,by rw [Int.zero_add,Int.zero_add];rfl,k⟩
  ·unfold rowB at k
   rw [List.map_map] at k
   exact k
 ·subst hN
  (try dsimp only);refine seq_intro fun N hN=>?_
  simp only [VV]
  refine ⟨⟨by first | decide | omega,by first | decide | omega⟩,by rw [rangeD_length];omega,?_⟩
  rw [rangeD_map,Int.toNat_natCast]
  refine comp1n (fun one:Nat=>rowB ((List.range n).map (backB x m one))) Src.ok_nil none (fun one hone K k=>?_) ?_
  ·simp only [VV]
   refine ⟨⟨by first | decide | omega,by first | decide | omega⟩,by rw [rangeD_length];omega,?_⟩
   rw [rangeD_map,Int.toNat_natCast]
   refine comp1n (fun other:Nat=>D.bl (backB x m one other)) Src.ok_nil none (fun other ho K k=>?_) ?_
   ·simp only [VV]
    exact ⟨x,g,ys,m,one,other,by rw [Int.zero_add,Int.zero_add];rfl,k⟩
   ·unfold rowB at k
    rw [List.map_map] at k
    exact k
  ·subst hN
   (try dsimp only);refine seq_intro fun N hN=>?_
   simp only [VV]
   refine ⟨⟨by first | decide | omega,by first | decide | omega⟩,by rw [rangeD_length];omega,?_⟩
   rw [rangeD_map,Int.toNat_natCast]
   refine comp1n (fun one:Nat=>rowB ((List.range n).map (overB x one))) Src.ok_nil none (fun one hone K k=>?_) ?_
   ·simp only [VV]
    refine ⟨⟨by first | decide | omega,by first | decide | omega⟩,by rw [rangeD_length];omega,?_⟩
    rw [rangeD_map,Int.toNat_natCast]
    refine comp1n (fun other:Nat=>D.bl (overB x one other)) Src.ok_nil none (fun other ho K k=>?_) ?_
    ·simp only [VV]
     exact ⟨x,g,ys,one,other,by rw [Int.zero_add,Int.zero_add];rfl,k⟩
    ·unfold rowB at k
     rw [List.map_map] at k
     exact k
   ·subst hN
    have li:ti.length=n:=by rw [← hi,gath_len]
    have lb:tb'.length=m:=by rw [← hb,gath_len]
    have lo:to.length=n:=by rw [← ho,gath_len]
    simp only [at8_5,at8_6,at8_7,VV]
    refine ⟨ti,(List.range n).map fun d=>(List.range m).map (intoB ys d),by rw [List.map_map];rfl,by simp [li],by first | decide | omega,tab_ok li m6 (fun d _ e=>by rw [← hi];exact in_bit n2 hy d e) (fun d hd e he=>?_),?_⟩
    ·unfold intoB at he
     by_cases z:e=0
     ·omega
     ·rw [if_neg z,Bool.and_eq_true,decide_eq_true_iff] at he;omega
    ·simp only [VV]
     refine ⟨tb',(List.range m).map fun d=>(List.range n).map (backB x m d),by rw [List.map_map];rfl,by simp [lb],by first | decide | omega,tab_ok lb n6 (fun d _ e=>by rw [← hb];exact bk_bit m2 d e) (fun d hd e he=>?_),?_⟩
     ·unfold backB at he
      simp at he;omega
     ·simp only [VV]
      refine ⟨to,(List.range n).map fun d=>(List.range n).map (overB x d),by rw [List.map_map];rfl,by simp [lo],by first | decide | omega,tab_ok lo n6 (fun d hd e=>by rw [← ho];exact ov_bit d e hd) (fun d hd e he=>?_),q⟩
      unfold overB at he
      simp at he;omega
theorem ok_q11{f:Addr}{fd:FuncData}(F:Fun K "_law_is_call" "_law_is_call" s_q11 f fd)(T:Txt P w K mg)(C_q10:Cal P w K mg base 1 "_law_into" ["_law_row","_law_one","_law_other"] (spD K 3 S_q10))(C_q1:Cal P w K mg base 1 "_law_back" ["_law_row","_law_one","_law_other","_law_theirs"] (spD K 4 S_q1))(C_q15:Cal P w K mg base 1 "_law_over" ["_law_row","_law_one","_law_other"] (spD K 3 S_q15))(C_q12:Cal P w K mg base 1 "_law_is_table" ["_law_table","_law_truths"] (spD K 2 S_q12)):FnOk P w K mg base CX0 2 f fd ["_law_edge","_law_row","_law_place","_law_many","_law_theirs"] (spD K 5 S_q11) :=
 fn_ok (k:=1) (b:=b_q11) F sc_q11 (fun cdv A outer s H E hr=>by
  refine ss_cons ?_ ?_
  ·refine s_if ?_ ?_ ?_
   ·exact st_w (sw_or (st_not (st_truth (se_isinst (by decide) rfl T.b_isinstance (sv 0) (pe_bltn (v:=.ty "tuple") rfl T.b_tuple PyProof.Rows.boot_tuple rfl)))) (sw_or (st_cmp (ok_ne hr.units) (se_sl (sv 0) so_none (so_some se_int)) (se_tup (sa_cons se_str (sa_cons (sv 2) (sa_cons (se_op ok_plus (sv 2) se_int) (sa_cons se_int (sa_cons (se_ix ok_ix (sv 1) se_int (fun _ _=>rfl)) sa_nil)))))) (nomark _)) (sw_or1 (st_cmp (ok_ne hr.units) (se_callB ok_len rfl T.b_len PySem.boot_len (sa_cons (sv 0) sa_nil)) se_int (nomark _)))))
   ·refine ss_one ?_
    refine s_ret ?_
    exact se_bl
   exact ss_nil
  refine ss_cons ?_ ?_
  ·exact s_setcV (i:=5) (hN:=sc_q11.nd) (hix:=rfl) (hx:=(Or.inl rfl)) rfl (N':= ["_law_one","_law_theirs","_law_row"]) (js:=[none,some 4,some 1]) ⟨rfl,by decide +kernel,rfl,rfl,rfl⟩ (si_range1 rfl T.b_range (sa_cons (sv 3) sa_nil)) (fun s0 H0 fp=>⟨(sg_name (i:=0) (show (["_law_one","_law_theirs","_law_row"]:List Str).Nodup by decide +kernel) rfl (Or.inr rfl)),sf_nil,(se_v (sn_comp rfl (N':= ["_law_other","_law_row","_law_one"]) (js:=[none,some 2,some 0]) ⟨rfl,by decide +kernel,rfl,rfl,rfl⟩ (si_range1 rfl T.b_range (sa_cons (sv 1) sa_nil)) (fun s0 H0 fp=>⟨(sg_name (i:=0) (show (["_law_other","_law_row","_law_one"]:List Str).Nodup by decide +kernel) rfl (Or.inl rfl)),sf_nil,(se_cal C_q10 (hr.mono (by decide)) rfl (sa_cons (sv 1) (sa_cons (sv 2) (sa_cons (sv 0) sa_nil))))⟩)))⟩)
  refine ss_cons ?_ ?_
  ·exact s_setcV (i:=6) (hN:=sc_q11.nd) (hix:=rfl) (hx:=(Or.inl rfl)) rfl (N':= ["_law_one","_law_many","_law_row","_law_theirs"]) (js:=[none,some 3,some 1,some 4]) ⟨rfl,by decide +kernel,rfl,rfl,rfl⟩ (si_range1 rfl T.b_range (sa_cons (sv 4) sa_nil)) (fun s0 H0 fp=>⟨(sg_name (i:=0) (show (["_law_one","_law_many","_law_row","_law_theirs"]:List Str).Nodup by decide +kernel) rfl (Or.inr rfl)),sf_nil,(se_v (sn_comp rfl (N':= ["_law_other","_law_row","_law_one","_law_theirs"]) (js:=[none,some 2,some 0,some 3]) ⟨rfl,by decide +kernel,rfl,rfl,rfl⟩ (si_range1 rfl T.b_range (sa_cons (sv 1) sa_nil)) (fun s0 H0 fp=>⟨(sg_name (i:=0) (show (["_law_other","_law_row","_law_one","_law_theirs"]:List Str).Nodup by decide +kernel) rfl (Or.inl rfl)),sf_nil,(se_cal C_q1 (hr.mono (by decide)) rfl (sa_cons (sv 1) (sa_cons (sv 2) (sa_cons (sv 0) (sa_cons (sv 3) sa_nil)))))⟩)))⟩)
  refine ss_cons ?_ ?_
  ·exact s_setcV (i:=7) (hN:=sc_q11.nd) (hix:=rfl) (hx:=(Or.inl rfl)) rfl (N':= ["_law_one","_law_many","_law_row"]) (js:=[none,some 3,some 1]) ⟨rfl,by decide +kernel,rfl,rfl,rfl⟩ (si_range1 rfl T.b_range (sa_cons (sv 3) sa_nil)) (fun s0 H0 fp=>⟨(sg_name (i:=0) (show (["_law_one","_law_many","_law_row"]:List Str).Nodup by decide +kernel) rfl (Or.inr rfl)),sf_nil,(se_v (sn_comp rfl (N':= ["_law_other","_law_row","_law_one"]) (js:=[none,some 2,some 0]) ⟨rfl,by decide +kernel,rfl,rfl,rfl⟩ (si_range1 rfl T.b_range (sa_cons (sv 1) sa_nil)) (fun s0 H0 fp=>⟨(sg_name (i:=0) (show (["_law_other","_law_row","_law_one"]:List Str).Nodup by decide +kernel) rfl (Or.inl rfl)),sf_nil,(se_cal C_q15 (hr.mono (by decide)) rfl (sa_cons (sv 1) (sa_cons (sv 2) (sa_cons (sv 0) sa_nil))))⟩)))⟩)
  refine ss_one ?_
  refine s_ret ?_
  exact se_and (se_cal C_q12 (hr.mono (by decide)) rfl (sa_cons (se_ix ok_ix (sv 0) se_int (fun _ _=>rfl)) (sa_cons (sv 5) sa_nil))) (se_and (se_cal C_q12 (hr.mono (by decide)) rfl (sa_cons (se_ix ok_ix (sv 0) se_int (fun _ _=>rfl)) (sa_cons (sv 6) sa_nil))) (se_one (se_cal C_q12 (hr.mono (by decide)) rfl (sa_cons (se_ix ok_ix (sv 0) se_int (fun _ _=>rfl)) (sa_cons (sv 7) sa_nil)))))) imp_q11
noncomputable def b_q0:DS:=(dSeq (dAsg (dOp pPlus (dCB pLen (dCons (dOp pIx (dOp pIx (dVar 1) (dVar 2)) (dC (.int 2))) dNil)) (dC (.int 2))) (dName 3))
  (dSeq (dAsg (dTk (dListOf (dCons (dVar 0) dNil))) (dName 4))
  (dSeq (dFor (dIEnum (dCons (dOp pIx (dOp pIx (dVar 1) (dVar 2)) (dC (.int 3))) dNil)) (dUnp 2 (dGCons (dName 5) (dGCons (dName 6) dGNil))) (dSeq (dAsg (dV (dComp [none,some 3,some 6] (dIRange (dCons (dVar 3) dNil)) (dName 0) dNoIf (dV (dComp [none,some 2,some 0,some 1] (dIRange (dCons (dVar 1) dNil)) (dName 0) dNoIf (dCal S_q3 (dCons (dVar 1) (dCons (dVar 2) (dCons (dVar 0) (dCons (dVar 3) dNil))))))))) (dName 7))
  (dFor (dISeq (dCal S_q8 (dCons (dVar 6) (dCons (dVar 5) (dCons (dOp pIx (dOp pIx (dVar 1) (dVar 2)) (dC (.int 3))) dNil))))) (dName 8) (dSeq (dIfS (dTst (dOp (pEq false) (dCB pLen (dCons (dVar 4) dNil)) (dC (.int 0)))) (dRet (dC (.bl false))) dNext)
  (dSeq (dAsg (dPopAt (dVar 4) (dCons (dC (.int 0)) dNil)) (dName 9))
  (dIfS (dTst (dOp (pEq false) (dOp pIx (dVar 6) (dC (.int 0))) (dC (.str "call")))) (dIfS (dNot (dTr (dCal S_q11 (dCons (dVar 9) (dCons (dVar 6) (dCons (dVar 5) (dCons (dVar 3) (dCons (dOp pPlus (dCB pLen (dCons (dOp pIx (dOp pIx (dVar 1) (dOp pIx (dVar 6) (dC (.int 2)))) (dC (.int 2))) dNil)) (dC (.int 2))) dNil)))))))) (dRet (dC (.bl false))) dNext) (dIfS (dOr (dNot (dTr (dIsinst "tuple" (dVar 9)))) (dOr (dTst (dOp (pEq true) (dSl (dVar 9) dNoPart (dPart (dC (.int 4)))) (dTup (dCons (dC (.str "step")) (dCons (dVar 5) (dCons (dVar 8) (dCons (dC (.int 1)) dNil))))))) (dTst (dOp (pEq true) (dCB pLen (dCons (dVar 9) dNil)) (dC (.int 5)))))) (dRet (dC (.bl false))) (dIfS (dNot (dTr (dCal S_q12 (dCons (dOp pIx (dVar 9) (dC (.int 4))) (dCons (dVar 7) dNil))))) (dRet (dC (.bl false))) dNext))))))))
  (dRet (dOp (pEq false) (dVar 4) (dV dNil))))))
theorem or_bit{n d e x:Nat}{vs:List Nat}(hd:d < n)(hv:∀ v ∈ vs,1 + v < n):((eiT (gath n (woL n [1 + x])) (gath n (vs.map fun v=>(1 + v,1 + x)))).getD d 0).testBit e=if e=1 + x then vs.any (fun v=>decide (d=1 + v)) else decide (d=e):=by
 rw [ei_bit (by rw [gath_len,gath_len]) (by rw [gath_len];exact hd),ga_bit (fun p hp=>(woL_lt hp).1),ga_bit (fun p hp=>by obtain ⟨v,hv',rfl⟩:=List.mem_map.mp hp;exact hv v hv')]
 by_cases z:e=1 + x
 ·rw [if_pos z,Bool.eq_iff_iff,Bool.or_eq_true,decide_eq_true_iff,decide_eq_true_iff,wo_mem,List.any_eq_true]
  constructor
  ·rintro (⟨h1,_,h3⟩ | h)
   ·exact absurd (by rw [h1,z];simp) h3
   ·obtain ⟨v,hv',hh⟩:=List.mem_map.mp h
    cases hh
    exact ⟨v,hv',by simp⟩
  ·rintro ⟨v,hv',hh⟩
   have hh:=of_decide_eq_true hh
   exact .inr (List.mem_map.mpr ⟨v,hv',by rw [hh,z]⟩)
 ·rw [if_neg z,Bool.eq_iff_iff,Bool.or_eq_true,decide_eq_true_iff,decide_eq_true_iff,wo_mem,decide_eq_true_iff]
  constructor
  ·rintro (⟨h1,_,h3⟩ | h)
   ·exact h1
   ·obtain ⟨v,hv',hh⟩:=List.mem_map.mp h
    cases hh
    exact absurd rfl z
  ·rintro rfl
   exact .inl ⟨rfl,hd,by simpa using z⟩
theorem st_bit{n:Nat}{r:Rw}(ok:rOk n r)(n2:2 ≤ n){d:Nat}(hd:d < n)(e:Nat):((stT n r).getD d 0).testBit e=brB n r d e:=by
 obtain ⟨o1,o2,o3⟩:=ok
 cases r with
 |ifq x q=>exact sm_bit hd
 |to q=>exact sm_bit hd
 |call x g ys=>exact (o3 x g ys rfl).elim
 |dye x =>
  have o1:1 + x < n:=o1
  show ((eiT (smT n) (gath n [(0,1 + x)])).getD d 0).testBit e=(decide (d=e) || (decide (d=0) && decide (e=1 + x)))
  rw [ei_bit (by rw [smT_len,gath_len]) (by rw [smT_len];exact hd),sm_bit hd,ga_bit (fun p hp=>by rw [List.mem_singleton.mp hp];show 0 < n;omega)]
  congr 1
  rw [Bool.eq_iff_iff];simp
 |ret x =>
  have o1:1 + x < n:=o1
  show ((gath n [(0,0),(1 + x,n - 1)]).getD d 0).testBit e=((decide (d=0) && decide (e=0)) || (decide (d=1 + x) && decide (e + 1=n)))
  rw [ga_bit]
  ·rw [Bool.eq_iff_iff,decide_eq_true_iff];simp;omega
  ·intro p hp
   simp at hp
   rcases hp with h | h <;> rw [h] <;> show _ < n <;> dsimp only <;> omega
 |copy x y =>
  refine (or_bit (vs:=[y]) hd o2).trans ?_
  show _=if e=1 + x then decide (d=1 + y) else decide (d=e)
  simp [tgt]
 |does x o y z =>
  refine (or_bit (vs:=[y,z]) hd o2).trans ?_
  show _=if e=1 + x then (decide (d=1 + y) || decide (d=1 + z)) else decide (d=e)
  simp [tgt]
 |num x k=>exact or_bit (vs:=[]) hd o2
 |wash x=>exact or_bit (vs:=[]) hd o2
theorem br_lt{n:Nat}{r:Rw}(ok:rOk n r){d e:Nat}(hd:d < n)(h:brB n r d e=true):e < n:=by
 obtain ⟨o1,o2,o3⟩:=ok
 have gen:∀ (x:Nat) (b:Bool),1 + x < n→(if e=1 + x then b else decide (d=e))=true→e < n:=fun x b hx hh=>by
  by_cases z:e=1 + x
  ·omega
  ·rw [if_neg z] at hh;have:=of_decide_eq_true hh;omega
 cases r with
 |ifq x q=>have:=of_decide_eq_true h;omega
 |to q=>have:=of_decide_eq_true h;omega
 |call x g ys=>exact (o3 x g ys rfl).elim
 |dye x =>
  have o1:1 + x < n:=o1
  have h:(decide (d=e) || (decide (d=0) && decide (e=1 + x)))=true:=h
  simp at h;omega
 |ret x =>
  have h:((decide (d=0) && decide (e=0)) || (decide (d=1 + x) && decide (e + 1=n)))=true:=h
  simp at h;omega
 |copy x y=>exact gen x _ o1 h
 |does x o y z=>exact gen x _ o1 h
 |num x k=>exact gen x false o1 h
 |wash x=>exact gen x false o1 h
theorem stT_len{n:Nat}(r:Rw):(stT n r).length=n:=by
 have ei:∀ s t:List Nat,s.length=n→t.length=n→(eiT s t).length=n:=fun s t h1 h2=>by unfold eiT;rw [List.length_map,List.length_zip,h1,h2];omega
 cases r with
 |ifq x q=>exact smT_len n
 |to q=>exact smT_len n
 |ret x=>exact gath_len _ _
 |dye x=>exact ei _ _ (smT_len n) (gath_len _ _)
 |_=>exact ei _ _ (gath_len _ _) (gath_len _ _)
noncomputable def S_q0:DSp:=fun ds h Q=>∃ (d:D) (P:List Fu) (f:Nat) (F:Fu),ds=[d,.lst (P.map fuD),.int f]∧PrOk P∧P[f]?=some F∧lsOf h d=some ((fnE P F).map eD)∧Q (.bl true) h
theorem imp_q0:∀ ds h Q,S_q0 ds h Q→runD 10 b_q0 ds h (Dr h Q):=by
 rintro ds h Q ⟨d,P,f,F,rfl,ok,hF,hd,q⟩
 have mF:=List.mem_of_getElem? hF
 have v4:=ok.vars F mF
 have r9:=ok.rows F mF
 have ixP:atI (P.map fuD) (f:Int)=some (.tup [.str F.name,nD F.given,.tup (F.vars.map .str),.tup (F.rows.map roD)]):=by rw [atN,List.getElem?_map,hF];rfl
 delta runD b_q0;simp only [List.map_cons,List.map_nil,List.cons_append,List.nil_append,List.length_cons,List.length_nil,List.replicate,Nat.reduceSub,Nat.reduceAdd,Nat.zero_add,Nat.sub_self]
 (try dsimp only);refine seq_intro fun N hN=>?_
 simp only [ixP,List.length_map,VV]
 subst hN
 (try dsimp only);refine seq_intro fun N hN=>?_
 simp only [seq_ls hd,VV]
 subst hN
 (try dsimp only);refine seq_intro fun N hN=>?_
 simp only [ixP,VV]
 rw [enumD_map]
 generalize hn:F.vars.length + 2=n
 have eN:D.int ((F.vars.length:Int) + 2)=nD n:=by rw [← hn];exact congrArg D.int (Int.natCast_add _ _).symm
 rw [eN]
 have n2:2 ≤ n:=by first | decide | omega
 have n6:n ≤ 6:=by first | decide | omega
 refine forL_map (fun p δ h'=>∃ (E:List Edge) (x5 x6 x7 x8 x9:Option D),δ=[some d,some (.lst (P.map fuD)),some (.int (f:Int)),some (nD n),some (.ref h.length),x5,x6,x7,x8,x9]∧h'=h ++ [.lst (E.map eD)]∧fnE P F=(p.flatMap fun x=>rowE P F x.2 x.1) ++ E) ⟨fnE P F,none,none,none,none,none,rfl,rfl,rfl⟩ (fun _ _ _ _=>Src.ok_nil) ?_ ?_
 ·rintro p ⟨r,i⟩ rest δ h' N1 e ⟨E,x5,x6,x7,x8,x9,rfl,rfl,hE⟩ hN1
  obtain ⟨hi,hr⟩:=zip_at e
  have rok:=ok.ok F mF r (List.mem_of_getElem? hr)
  have hE':E=rowE P F i r ++ rest.flatMap fun x=>rowE P F x.2 x.1:=by
   have:fnE P F=(p.flatMap fun x=>rowE P F x.2 x.1) ++ (rowE P F i r ++ rest.flatMap fun x=>rowE P F x.2 x.1):=by
    unfold fnE
    rw [e,List.flatMap_append,List.flatMap_cons]
   rw [this] at hE
   exact (List.append_cancel_left hE).symm
  simp only [VV]
  refine ⟨trivial,?_⟩
  (try dsimp only);refine seq_intro fun N hN=>?_
  simp only [VV]
  refine ⟨⟨by first | decide | omega,by first | decide | omega⟩,by rw [rangeD_length];omega,?_⟩
  rw [rangeD_map,Int.toNat_natCast]
  refine comp1n (fun one:Nat=>rowB ((List.range n).map (brB n r one))) Src.ok_nil none (fun one hone K k=>?_) ?_
  ·simp only [VV]
   refine ⟨⟨by first | decide | omega,by first | decide | omega⟩,by rw [rangeD_length];omega,?_⟩
   rw [rangeD_map,Int.toNat_natCast]
   refine comp1n (fun other:Nat=>D.bl (brB n r one other)) Src.ok_nil none (fun other ho K k=>?_) ?_
   ·simp only [VV]
    exact ⟨r,n,one,other,by rw [Int.zero_add,Int.zero_add],k⟩
   ·unfold rowB at k
    rw [List.map_map] at k
    exact k
  ·subst hN
   simp only [ixP,VV]
   refine ⟨r,i,F.rows,by rw [Int.zero_add],?_⟩
   simp only [VV]
   generalize hR:(rest.flatMap fun x=>rowE P F x.2 x.1)=R at hE'
   refine forL_map (fun p' δ h'=>∃ (x8 x9:Option D),δ=[some d,some (.lst (P.map fuD)),some (.int (f:Int)),some (nD n),some (.ref h.length),some (.int (0 + (i:Int))),some (roD r),some (.lst ((List.range n).map fun one=>rowB ((List.range n).map (brB n r one)))),x8,x9]∧h'=h ++ [.lst (((rowE P F i r).drop p'.length ++ R).map eD)]) ⟨x8,x9,rfl,by rw [hE'];rfl⟩ (fun _ _ _ _=>Src.ok_nil) ?_ ?_
   ·rintro p' z r' δ h' N2 e' ⟨x8,x9,rfl,rfl⟩ hN2
    have zl:p'.length < (behind i r F.rows.length).length:=by rw [e'];simp
    obtain ⟨Ez,dz,hz1,hz2⟩:∃ Ez,(rowE P F i r).drop p'.length=Ez :: (rowE P F i r).drop (p'.length + 1)∧((∀ x g ys,r ≠ .call x g ys)→Ez=stE F i r z)∧(∀ x g ys,r = .call x g ys→Ez=caE (F.vars.length + 2) (factsAt P g) i x g ys):=by
     have bz:(behind i r F.rows.length)[p'.length]?=some z:=by rw [e'];simp
     have gen:(∀ x g ys,r ≠ .call x g ys)→rowE P F i r=(behind i r F.rows.length).map (stE F i r):=fun hc=>by
      cases r with
      |call x g ys=>exact (hc x g ys rfl).elim
      |_=>rfl
     by_cases hc:∃ x g ys,r = .call x g ys
     ·obtain ⟨x,g,ys,rfl⟩:=hc
      have p0:p'.length=0:=by have:p'.length < 1:=zl;omega
      rw [p0]
      exact ⟨_,rfl,fun hh=>(hh x g ys rfl).elim,fun x' g' ys' hh=>by cases hh;rfl⟩
     ·have hc':∀ x g ys,r ≠ .call x g ys:=fun x g ys hh=>hc ⟨x,g,ys,hh⟩
      have hl:p'.length < (rowE P F i r).length:=by rw [gen hc',List.length_map];exact zl
      refine ⟨(rowE P F i r)[p'.length],List.drop_eq_getElem_cons hl,fun _=>?_,fun x g ys hh=>(hc' x g ys hh).elim⟩
      have:(rowE P F i r)[p'.length]?=some (stE F i r z):=by rw [gen hc',List.getElem?_map,bz];rfl
      exact Option.some.inj ((List.getElem?_eq_getElem hl).symm.trans this)
    rw [dz]
    generalize hT:(rowE P F i r).drop (p'.length + 1)=T at dz
    have fin:∀ (x8 x9:Option D),N2 [some d,some (.lst (P.map fuD)),some (.int (f:Int)),some (nD n),some (.ref h.length),some (.int (0 + (i:Int))),some (roD r),some (.lst ((List.range n).map fun one=>rowB ((List.range n).map (brB n r one)))),x8,x9] (h ++ [.lst ((T ++ R).map eD)]):=fun x8 x9 =>
     hN2 _ _ ⟨x8,x9,rfl,by rw [List.length_append,List.length_singleton,hT]⟩
    simp only [VV]
    (try dsimp only);refine seq_intro fun N hN=>?_
    have ln:lenD (h ++ [O.lst (eD Ez :: (T ++ R).map eD)]) (.ref h.length)=some ((T ++ R).length + 1):=by rw [len_ls (ls_new _ _)];simp
    have e0:((((T ++ R).length + 1:Nat):Int) == 0)=false:=by simp;omega
    simp only [ln,e0,VV]
    subst hN
    (try dsimp only);refine seq_intro fun N hN=>?_
    simp only [get_new,set_new,Int.toNat_zero,List.eraseIdx_cons_zero,VV]
    refine ⟨⟨by decide,by decide⟩,?_⟩
    subst hN
    (try dsimp only);refine if_intro fun A1 B1 hA hB=>?_
    by_cases hc:∃ x g ys,r = .call x g ys
    ·obtain ⟨x,g,ys,rfl⟩:=hc
     obtain ⟨o1,o2,G,hG,o3,o4⟩:=rok
     have fa:factsAt P g=G.vars.length + 2:=by unfold factsAt;rw [hG];rfl
     have ez:=hz2 x g ys rfl
     have ixG:atI (P.map fuD) (g:Int)=some (.tup [.str G.name,nD G.given,.tup (G.vars.map .str),.tup (G.rows.map roD)]):=by rw [atN,List.getElem?_map,hG];rfl
     simp only [roD,VV]
     subst hA
     (try dsimp only);refine if_intro fun A1 B1 hA hB=>?_
     simp only [ixG,List.length_map,VV]
     refine ⟨n,G.vars.length + 2,i,x,g,ys,?_,n2,n6,by first | decide | omega,by first | decide | omega,by first | decide | omega,fun y hy=>by have:=o2 y hy;omega,by first | decide | omega,?_⟩
     ·rw [ez,fa,hn,Int.zero_add];rfl
     ·simp only [VV]
      subst hB
      simp only [VV]
      exact fin _ _
    ·have hc':∀ x g ys,r ≠ .call x g ys:=fun x g ys hh=>hc ⟨x,g,ys,hh⟩
     have rk:rOk n r:=by
      rw [← hn]
      cases r with
      |call x g ys=>exact (hc' x g ys rfl).elim
      |_=>exact rok
     have eE:eD Ez = .tup [.str "step",.int (i:Int),.int (z:Int),.int 1,tD (stT n r)]:=by
      rw [hz1 hc',← hn];rfl
     simp only [ro_0,wd_ok,wd_call hc',sk_call,VV]
     subst hB
     rw [eE]
     (try dsimp only);refine if_intro fun A1 B1 hA hB=>?_
     have cu:cutD [D.str "step",.int (i:Int),.int (z:Int),.int 1,tD (stT n r)] none (some 4)=[.str "step",.int (i:Int),.int (z:Int),.int 1]:=rfl
     have e5:(((5:Nat):Int) == 5)=true:=rfl
     rw [Int.zero_add] at fin ⊢
     simp only [cu,VV0]
     refine pEq_same rfl (Pd.tup (n:=0) (.cons (.str sk_step) (.cons (.int _) (.cons (.int _) (.cons (.int _) .nil))))) (Pd.tup (n:=0) (.cons (.str sk_step) (.cons (.int _) (.cons (.int _) (.cons (.int _) .nil))))) (by decide) ?_
     simp only [e5,VV]
     subst hB
     (try dsimp only);refine if_intro fun A1 B1 hA hB=>?_
     simp only [VV]
     refine ⟨stT n r,(List.range n).map fun one=>(List.range n).map (brB n r one),by rw [List.map_map];rfl,by simp [stT_len],by rw [stT_len];exact n6,tab_ok (stT_len r) n6 (fun d hd e=>st_bit rk n2 hd e) (fun d hd e he=>br_lt rk hd he),?_⟩
     simp only [VV]
     subst hB
     simp only [VV]
     exact fin _ _
   ·rintro δ h' ⟨x8,x9,rfl,rfl⟩
    refine hN1 _ _ ⟨R,_,_,_,_,_,rfl,?_,?_⟩
    ·have:(rowE P F i r).drop (behind i r F.rows.length).length=[]:=List.drop_of_length_le (by
      cases r with
      |call x g ys=>exact Nat.le_refl 1
      |_=>exact Nat.le_of_eq (List.length_map _))
     rw [this];rfl
    ·rw [hE,hE',List.flatMap_append,List.flatMap_cons,List.flatMap_nil,List.append_nil,List.append_assoc]
 ·rintro δ h' ⟨E,x5,x6,x7,x8,x9,rfl,rfl,hE⟩
  have:E=[]:=by
   have e2:fnE P F=F.rows.zipIdx.flatMap fun x=>rowE P F x.2 x.1:=rfl
   rw [← e2] at hE
   have:=congrArg List.length hE
   rw [List.length_append] at this
   exact List.length_eq_zero_iff.mp (by first | decide | omega)
  subst this
  subst hN
  simp only [VV0]
  exact pEq_same (n:=1) rfl (.ref (get_new _ _) .nil) (.lst .nil) (by decide) (Dr.drop rfl q)
theorem tOk_bits{t:List Nat}{n m:Nat}(hl:t.length=n)(hb:∀ d,d < n→∀ e,(t.getD d 0).testBit e=true→e < m):tOk t n m:=by
 refine ⟨hl,fun x hx=>Nat.lt_pow_two_of_testBit _ fun j hj=>?_⟩
 obtain ⟨d,hd⟩:=List.mem_iff_getElem?.mp hx
 have h1:t.getD d 0=x:=by rw [List.getD_eq_getElem?_getD,hd];rfl
 cases z:x.testBit j with
 |false=>rfl
 |true=>have:=hb d (by rw [← hl];exact (List.getElem?_eq_some_iff.mp hd).1) j (by rw [h1];exact z);omega
structure PrG(P:List Fu):Prop extends PrOk P where
 one:1 ≤ P.length
 aim:∀ F ∈ P,∀ r ∈ F.rows,(∀ q,r = .to q→q ≤ F.rows.length)∧∀ x q,r = .ifq x q→q ≤ F.rows.length
theorem chart_wf{P:List Fu}(ok:PrG P):WF (chartQ P P):=by
 have s6:=ok.six
 refine ⟨by unfold chartQ;rw [List.length_map];exact ok.one,by unfold chartQ;rw [List.length_map];exact s6,fun f F' hF'=>?_⟩
 unfold chartQ at hF'
 rw [List.getElem?_map] at hF'
 cases hF:P[f]? with
 |none=>rw [hF] at hF';cases hF'
 |some F =>
  rw [hF] at hF'
  cases hF'
  have mF:=List.mem_of_getElem? hF
  have v4:=ok.vars F mF
  have r9:=ok.rows F mF
  have fl:=flat_len (fun x:Rw×Nat=>rowE P F x.2 x.1) 2 (fun x=>rowE_len _ _ _ _) F.rows.zipIdx
  rw [List.length_zipIdx] at fl
  refine ⟨by dsimp only;omega,by dsimp only;omega,by dsimp only;omega,by dsimp only;omega,(show (fnE P F).length ≤ 100 by unfold fnE;omega),fun E hE=>?_⟩
  have hE:E ∈ fnE P F:=hE
  unfold fnE at hE
  obtain ⟨⟨r,i⟩,hri,hE⟩:=List.mem_flatMap.mp hE
  have hr:F.rows[i]?=some r:=List.mem_zipIdx_iff_getElem?.mp hri
  have il:=(List.getElem?_eq_some_iff.mp hr).1
  have mr:=List.mem_of_getElem? hr
  have rok:=ok.ok F mF r mr
  obtain ⟨aim1,aim2⟩:=ok.aim F mF r mr
  have hE:E ∈ rowE P F i r:=hE
  by_cases hc:∃ x g ys,r = .call x g ys
  ·obtain ⟨x,g,ys,rfl⟩:=hc
   obtain ⟨o1,o2,G,hG,o3,o4⟩:=rok
   have fa:factsAt P g=G.vars.length + 2:=by unfold factsAt;rw [hG];rfl
   have hE:E=caE (F.vars.length + 2) (factsAt P g) i x g ys:=List.mem_singleton.mp hE
   rw [hE,fa]
   refine ⟨by show i < F.rows.length + 1;omega,by show i + 1 < F.rows.length + 1;omega,Nat.le_refl 1,by show 1 ≤ 10 ^ 18;decide,⟨G.rows.length + 1,G.vars.length + 2,fnE P G⟩,?_,?_,?_,?_⟩
   ·show (chartQ P P)[g]?=_
    unfold chartQ;rw [List.getElem?_map,hG];rfl
   ·refine tOk_bits (gath_len _ _) fun d hd e he=>?_
    rw [in_bit (by first | decide | omega) (fun y hy=>by have:=o2 y hy;omega)] at he
    show e < G.vars.length + 2
    unfold intoB at he
    by_cases z:e=0
    ·omega
    ·rw [if_neg z,Bool.and_eq_true,decide_eq_true_iff] at he;omega
   ·refine tOk_bits (gath_len _ _) fun d hd e he=>?_
    rw [bk_bit (by first | decide | omega)] at he
    show e < F.vars.length + 2
    unfold backB at he;simp at he;omega
   ·refine tOk_bits (gath_len _ _) fun d hd e he=>?_
    rw [ov_bit d e hd] at he
    show e < F.vars.length + 2
    unfold overB at he;simp at he;have hd:d < F.vars.length + 2:=hd;omega
  ·have hc':∀ x g ys,r ≠ .call x g ys:=fun x g ys hh=>hc ⟨x,g,ys,hh⟩
   have rk:rOk (F.vars.length + 2) r:=by
    cases r with
    |call x g ys=>exact (hc' x g ys rfl).elim
    |_=>exact rok
   have gen:rowE P F i r=(behind i r F.rows.length).map (stE F i r):=by
    cases r with
    |call x g ys=>exact (hc' x g ys rfl).elim
    |_=>rfl
   rw [gen] at hE
   obtain ⟨z,hz,rfl⟩:=List.mem_map.mp hE
   have zl:z ≤ F.rows.length:=by
    cases r with
    |ifq x q =>
     have hz:z ∈ [i + 1,q]:=hz
     have:=aim2 x q rfl
     simp at hz;omega
    |to q =>
     have hz:z ∈ [q]:=hz
     have:=aim1 q rfl
     simp at hz;omega
    |ret x =>
     have hz:z ∈ [F.rows.length]:=hz
     simp at hz;omega
    |_ =>
     have hz:z ∈ [i + 1]:=hz
     simp at hz;omega
   refine ⟨by show i < F.rows.length + 1;omega,by show z < F.rows.length + 1;omega,Nat.le_refl 1,by show 1 ≤ 10 ^ 18;decide,?_⟩
   exact tOk_bits (stT_len r) fun d hd e he=>br_lt rk hd (by rw [← st_bit rk (by first | decide | omega) hd];exact he)
theorem ok_q0{f:Addr}{fd:FuncData}(F:Fun K "_law_are_edges" "_law_are_edges" s_q0 f fd)(T:Txt P w K mg)(C_q3:Cal P w K mg base 1 "_law_brings" ["_law_row","_law_one","_law_other","_law_many"] (spD K 4 S_q3))(C_q8:Cal P w K mg base 1 "_law_ends" ["_law_row","_law_place","_law_rows"] (spD K 3 S_q8))(C_q11:Cal P w K mg base 2 "_law_is_call" ["_law_edge","_law_row","_law_place","_law_many","_law_theirs"] (spD K 5 S_q11))(C_q12:Cal P w K mg base 1 "_law_is_table" ["_law_table","_law_truths"] (spD K 2 S_q12)):FnOk P w K mg base CX0 3 f fd ["_law_edges","_law_program_here","_law_f"] (spD K 3 S_q0) :=
 fn_okD (k:=2) (b:=b_q0) F sc_q0 (fun cdv A outer s H E hr=>by
  refine ss_cons ?_ ?_
  ·refine s_set (i:=3) ?_ ?_ ?_ ?_
   ·exact sc_q0.nd
   ·exact rfl
   ·exact Or.inr rfl
   exact se_op ok_plus (se_callB ok_len rfl T.b_len PySem.boot_len (sa_cons (se_ix ok_ix (se_ix ok_ix (sv 1) (sv 2) (fun _ _=>rfl)) se_int (fun _ _=>rfl)) sa_nil)) se_int
  refine ss_cons ?_ ?_
  ·refine s_set (i:=4) ?_ ?_ ?_ ?_
   ·exact sc_q0.nd
   ·exact rfl
   ·exact Or.inl rfl
   exact se_t (sn_list rfl T.b_list (sa_cons (sv 0) sa_nil))
  refine ss_cons ?_ ?_
  ·refine s_for ?_ ?_ ?_ ?_ ?_
   ·exact PassesOwn.never
   ·exact rfl
   ·exact si_enum rfl T.b_enumerate (sa_cons (se_ix ok_ix (se_ix ok_ix (sv 1) (sv 2) (fun _ _=>rfl)) se_int (fun _ _=>rfl)) sa_nil)
   ·exact sg_tup rfl (sgs_cons (sg_name (i:=5) sc_q0.nd rfl (Or.inl rfl)) (sgs_cons (sg_name (i:=6) sc_q0.nd rfl (Or.inr rfl)) sgs_nil))
   refine ss_cons ?_ ?_
   ·exact s_setcV (i:=7) (hN:=sc_q0.nd) (hix:=rfl) (hx:=(Or.inl rfl)) rfl (N':= ["_law_one","_law_many","_law_row"]) (js:=[none,some 3,some 6]) ⟨rfl,by decide +kernel,rfl,rfl,rfl⟩ (si_range1 rfl T.b_range (sa_cons (sv 3) sa_nil)) (fun s0 H0 fp=>⟨(sg_name (i:=0) (show (["_law_one","_law_many","_law_row"]:List Str).Nodup by decide +kernel) rfl (Or.inr rfl)),sf_nil,(se_v (sn_comp rfl (N':= ["_law_other","_law_row","_law_one","_law_many"]) (js:=[none,some 2,some 0,some 1]) ⟨rfl,by decide +kernel,rfl,rfl,rfl⟩ (si_range1 rfl T.b_range (sa_cons (sv 1) sa_nil)) (fun s0 H0 fp=>⟨(sg_name (i:=0) (show (["_law_other","_law_row","_law_one","_law_many"]:List Str).Nodup by decide +kernel) rfl (Or.inl rfl)),sf_nil,(se_cal C_q3 (hr.mono (by decide)) rfl (sa_cons (sv 1) (sa_cons (sv 2) (sa_cons (sv 0) (sa_cons (sv 3) sa_nil)))))⟩)))⟩)
   refine ss_one ?_
   refine s_for ?_ ?_ ?_ ?_ ?_
   ·exact PassesOwn.never
   ·exact rfl
   ·exact si_seq (se_cal C_q8 (hr.mono (by decide)) rfl (sa_cons (sv 6) (sa_cons (sv 5) (sa_cons (se_ix ok_ix (se_ix ok_ix (sv 1) (sv 2) (fun _ _=>rfl)) se_int (fun _ _=>rfl)) sa_nil))))
   ·exact sg_name (i:=8) sc_q0.nd rfl (Or.inl rfl)
   refine ss_cons ?_ ?_
   ·refine s_if ?_ ?_ ?_
    ·exact st_cmp (ok_eq hr.units) (se_callB ok_len rfl T.b_len PySem.boot_len (sa_cons (sv 4) sa_nil)) se_int (nomark _)
    ·refine ss_one ?_
     refine s_ret ?_
     exact se_bl
    exact ss_nil
   refine ss_cons ?_ ?_
   ·refine s_set (i:=9) ?_ ?_ ?_ ?_
    ·exact sc_q0.nd
    ·exact rfl
    ·exact Or.inl rfl
    exact se_popAt (sv 4) (sa_cons se_int sa_nil)
   refine ss_one ?_
   refine s_if ?_ ?_ ?_
   ·exact st_cmp (ok_eq hr.units) (se_ix ok_ix (sv 6) se_int (fun _ _=>rfl)) se_str (nomark _)
   ·refine ss_one ?_
    refine s_if ?_ ?_ ?_
    ·exact st_not (st_truth (se_cal C_q11 (hr.mono (by decide)) rfl (sa_cons (sv 9) (sa_cons (sv 6) (sa_cons (sv 5) (sa_cons (sv 3) (sa_cons (se_op ok_plus (se_callB ok_len rfl T.b_len PySem.boot_len (sa_cons (se_ix ok_ix (se_ix ok_ix (sv 1) (se_ix ok_ix (sv 6) se_int (fun _ _=>rfl)) (fun _ _=>rfl)) se_int (fun _ _=>rfl)) sa_nil)) se_int) sa_nil)))))))
    ·refine ss_one ?_
     refine s_ret ?_
     exact se_bl
    exact ss_nil
   refine ss_one ?_
   refine s_if ?_ ?_ ?_
   ·exact st_w (sw_or (st_not (st_truth (se_isinst (by decide) rfl T.b_isinstance (sv 9) (pe_bltn (v:=.ty "tuple") rfl T.b_tuple PyProof.Rows.boot_tuple rfl)))) (sw_or (st_cmp (ok_ne hr.units) (se_sl (sv 9) so_none (so_some se_int)) (se_tup (sa_cons se_str (sa_cons (sv 5) (sa_cons (sv 8) (sa_cons se_int sa_nil))))) (nomark _)) (sw_or1 (st_cmp (ok_ne hr.units) (se_callB ok_len rfl T.b_len PySem.boot_len (sa_cons (sv 9) sa_nil)) se_int (nomark _)))))
   ·refine ss_one ?_
    refine s_ret ?_
    exact se_bl
   refine ss_one ?_
   refine s_if ?_ ?_ ?_
   ·exact st_not (st_truth (se_cal C_q12 (hr.mono (by decide)) rfl (sa_cons (se_ix ok_ix (sv 9) se_int (fun _ _=>rfl)) (sa_cons (sv 7) sa_nil))))
   ·refine ss_one ?_
    refine s_ret ?_
    exact se_bl
   exact ss_nil
  refine ss_one ?_
  refine s_ret ?_
  exact se_cmp (ok_eq hr.units) (sv 4) (se_v (sn_lst sa_nil)) (nomark _)) imp_q0
noncomputable def b_q16:DS:=(dSeq (dAsg (dOp (pEq false) (dOp pMod (dCal S_q4 (dCons (dVar 0) (dCons (dC (.int 7)) dNil))) (dC (.int 2))) (dC (.int 1))) (dName 4))
  (dSeq (dAsg (dOp pIx (dVar 3) (dC (.int 3))) (dName 5))
  (dSeq (dAsg (dCal S_q2 (dCons (dCal S_q5 (dCons (dVar 0) (dCons (dC (.int 9)) (dCons (dC (.int 54)) dNil)))) (dCons (dVar 3) dNil))) (dName 6))
  (dSeq (dAsg (dV (dComp [none,some 0] (dIRange (dCons (dCB pLen (dCons (dVar 6) dNil)) dNil)) (dName 0) dNoIf (dCal S_q4 (dCons (dVar 1) (dCons (dVar 0) dNil))))) (dName 7))
  (dSeq (dAsg (dV (dComp [none,some 5] (dISeq (dVar 7)) (dName 0) dNoIf (dOp pMod (dVar 0) (dOp pPlus (dVar 1) (dC (.int 1)))))) (dName 8))
  (dSeq (dAsg (dTk dNil) (dName 9))
  (dSeq (dFor (dIEnum (dCons (dVar 6) dNil)) (dUnp 2 (dGCons (dName 10) (dGCons (dName 11) dGNil))) (dSeq (dAsg (dTk (dComp [none,some 8,some 11,some 5,some 4] (dISeq (dVar 11)) (dName 0) dNoIf (dCal S_q7 (dCons (dVar 0) (dCons (dVar 1) (dCons (dOp pPlus (dCB pLen (dCons (dVar 2) dNil)) (dC (.int 1))) (dCons (dVar 3) (dCons (dVar 4) dNil)))))))) (dName 12))
  (dSeq (dAsg (dOp pDiv (dOp pIx (dVar 7) (dVar 10)) (dOp pPlus (dVar 5) (dC (.int 1)))) (dName 13))
  (dSeq (dDrop (dAppend (dVar 12) (dCons (dOp pIx (dV (dCons (dTup (dCons (dC (.str "to")) (dCons (dOp pMod (dOp pDiv (dVar 13) (dC (.int 3))) (dOp pPlus (dCB pLen (dCons (dVar 11) dNil)) (dC (.int 1)))) dNil))) (dCons (dTup (dCons (dC (.str "return")) (dCons (dOp pMod (dOp pDiv (dVar 13) (dC (.int 3))) (dVar 5)) dNil))) dNil))) (dCB pMin (dCons (dC (.int 1)) (dCons (dOp pMod (dVar 13) (dC (.int 3))) dNil)))) dNil)))
  (dSeq (dAsg (dTk (dListRng1 (dCons (dOp pIx (dVar 8) (dVar 10)) dNil))) (dName 14))
  (dSeq (dFor (dISeq (dVar 12)) (dName 15) (dFor (dISeq (dCal S_q13 (dCons (dVar 15) dNil))) (dName 16) (dIfS (dTst (dOp (pIn true) (dVar 16) (dVar 14))) (dDrop (dAppend (dVar 14) (dCons (dVar 16) dNil))) dNext)))
  (dSeq (dAsg (dCB pTuple (dCons (dV (dComp [none,some 2] (dISeq (dVar 14)) (dName 0) dNoIf (dOp pIx (dVar 1) (dVar 0)))) dNil)) (dName 17))
  (dDrop (dAppend (dVar 9) (dCons (dTup (dCons (dOp pIx (dVar 1) (dVar 10)) (dCons (dOp pIx (dVar 8) (dVar 10)) (dCons (dVar 17) (dCons (dCB pTuple (dCons (dV (dComp [none,some 14] (dISeq (dVar 12)) (dName 0) dNoIf (dCal S_q17 (dCons (dVar 0) (dCons (dVar 1) dNil))))) dNil)) dNil))))) dNil))))))))))
  (dRet (dVar 9)))))))))
theorem nd_len:∀ (n:Nat) (l:List Nat),l.Nodup→(∀ x ∈ l,x < n)→l.length ≤ n:=by
 intro n
 induction n with
 |zero =>
  intro l _ h
  cases l with
  |nil=>exact Nat.le_refl _
  |cons a r=>exact absurd (h a (by simp)) (Nat.not_lt_zero _)
 |succ n ih =>
  intro l nd h
  have h1:=ih (l.filter (fun x=>x != n)) (nd.sublist List.filter_sublist) (fun x hx=>by
   obtain ⟨a,b⟩:=List.mem_filter.mp hx
   have:=h x a
   have:x ≠ n:=by simpa using b
   omega)
  have h2:∀ l:List Nat,l.Nodup→l.length ≤ (l.filter (fun x=>x != n)).length + 1:=by
   intro l
   induction l with
   |nil=>intro _;exact Nat.zero_le _
   |cons a r ih2 =>
    intro nd
    obtain ⟨n1,n2⟩:=List.nodup_cons.mp nd
    by_cases z:a=n
    ·subst z
     have:r.filter (fun x=>x != a)=r:=List.filter_eq_self.mpr fun x hx=>by
      have:x ≠ a:=fun q=>n1 (q ▸ hx)
      simpa using this
     rw [List.filter_cons_of_neg (by simp),this,List.length_cons];omega
    ·have:=ih2 n2
     rw [List.filter_cons_of_pos (by simpa using z),List.length_cons,List.length_cons];omega
  have:=h2 l nd
  omega
noncomputable def VarOk(nm:List Str)(F:Fu):Prop:=∃ o:List Nat,o.Nodup∧(∀ x ∈ o,x < nm.length)∧F.vars=o.map fun i=>nm.getD i ""
noncomputable def FuOk(gv:List Nat)(nm:List Str)(b:List Int)(k:Nat)(F:Fu):Prop :=
 PyData.strOk F.name=true∧VarOk nm F∧k ≤ F.vars.length∧F.rows.length=b.length + 1∧(∀ r ∈ F.rows,rdOk F.vars.length (b.length + 1) gv r)∧(F.rows.map wtR).sum ≤ 1 + wtB b
theorem rowE_wt(P:List Fu)(F:Fu)(p:Nat)(r:Rw):(rowE P F p r).length=wtR r:=by cases r <;> rfl
theorem fnE_wt(P:List Fu)(F:Fu):(fnE P F).length=(F.rows.map wtR).sum:=by
 have:∀ (l:List (Rw×Nat)),(l.flatMap fun x=>rowE P F x.2 x.1).length=((l.map (·.1)).map wtR).sum:=by
  intro l
  induction l with
  |nil=>rfl
  |cons a r ih=>rw [List.flatMap_cons,List.length_append,ih,rowE_wt,List.map_cons,List.map_cons,List.sum_cons]
 unfold fnE
 rw [this,List.zipIdx_map_fst]
theorem prog_ok{P:List Fu}{gv:List Nat}{bs:List (List Int)}{nm:List Str}(l1:P.length=bs.length)(l2:gv.length=bs.length)(b1:1 ≤ bs.length)(b6:bs.length ≤ 6)(b8:∀ b ∈ bs,b.length ≤ 8)(t:total bs ≤ 24)(n4:nm.length ≤ 4)
  (h:∀ (i:Nat) (b:List Int) (k:Nat) (F:Fu),bs[i]?=some b→gv[i]?=some k→P[i]?=some F→FuOk gv nm b k F):PrG P∧many (chartQ P P) ≤ 24:=by
 have get:∀ F ∈ P,∃ i b k,bs[i]?=some b∧gv[i]?=some k∧P[i]?=some F:=fun F hF=>by
  obtain ⟨i,hi⟩:=List.mem_iff_getElem?.mp hF
  have il:=(List.getElem?_eq_some_iff.mp hi).1
  exact ⟨i,_,_,List.getElem?_eq_getElem (by first | decide | omega),List.getElem?_eq_getElem (by first | decide | omega),hi⟩
 have var4:∀ F ∈ P,F.vars.length ≤ 4:=fun F hF=>by
  obtain ⟨i,b,k,h1,h2,h3⟩:=get F hF
  obtain ⟨_,⟨o,nd,lt,ev⟩,_⟩:=h i b k F h1 h2 h3
  rw [ev,List.length_map]
  exact Nat.le_trans (nd_len _ o nd lt) n4
 refine ⟨{ six:=by first | decide | omega,vars:=var4,rows:=fun F hF=>?_,ok:=fun F hF r hr=>?_,one:=by first | decide | omega,aim:=fun F hF r hr=>?_ },?_⟩
 ·obtain ⟨i,b,k,h1,h2,h3⟩:=get F hF
  obtain ⟨_,_,_,rl,_⟩:=h i b k F h1 h2 h3
  have:=b8 b (List.mem_of_getElem? h1)
  omega
 ·obtain ⟨i,b,k,h1,h2,h3⟩:=get F hF
  obtain ⟨_,_,kl,rl,ro,_⟩:=h i b k F h1 h2 h3
  obtain ⟨lb,_,mt⟩:=ro r hr
  cases r with
  |call x g ys =>
   have mt:gv[g]?=some ys.length:=mt
   have gl:=(List.getElem?_eq_some_iff.mp mt).1
   obtain ⟨G,hG⟩:∃ G,P[g]?=some G:=⟨_,List.getElem?_eq_getElem (by first | decide | omega)⟩
   obtain ⟨_,_,kl',_⟩:=h g _ _ G (List.getElem?_eq_getElem (by first | decide | omega)) mt hG
   exact ⟨lb x (by simp [labs]),fun y hy=>lb y (by simp [labs,hy]),G,hG,var4 G (List.mem_of_getElem? hG),kl'⟩
  |to q=>exact ⟨by show 1 + 0 < F.vars.length + 2;omega,(fun v hv=>nomatch hv),fun _ _ _ z=>nomatch z⟩
  |copy x y =>
   have:=lb x (by simp [labs])
   have:=lb y (by simp [labs])
   exact ⟨by show 1 + x < F.vars.length + 2;omega,fun v hv=>by have hv:v ∈ [y]:=hv;simp at hv;omega,fun _ _ _ z=>nomatch z⟩
  |does x o y z =>
   have:=lb x (by simp [labs])
   have:=lb y (by simp [labs])
   have:=lb z (by simp [labs])
   exact ⟨by show 1 + x < F.vars.length + 2;omega,fun v hv=>by have hv:v ∈ [y,z]:=hv;simp at hv;omega,fun _ _ _ z=>nomatch z⟩
  |num x k=>exact ⟨by have:=lb x (by simp [labs]);show 1 + x < F.vars.length + 2;omega,(fun v hv=>nomatch hv),fun _ _ _ z=>nomatch z⟩
  |dye x=>exact ⟨by have:=lb x (by simp [labs]);show 1 + x < F.vars.length + 2;omega,(fun v hv=>nomatch hv),fun _ _ _ z=>nomatch z⟩
  |wash x=>exact ⟨by have:=lb x (by simp [labs]);show 1 + x < F.vars.length + 2;omega,(fun v hv=>nomatch hv),fun _ _ _ z=>nomatch z⟩
  |ifq x q=>exact ⟨by have:=lb x (by simp [labs]);show 1 + x < F.vars.length + 2;omega,(fun v hv=>nomatch hv),fun _ _ _ z=>nomatch z⟩
  |ret x=>exact ⟨by have:=lb x (by simp [labs]);show 1 + x < F.vars.length + 2;omega,(fun v hv=>nomatch hv),fun _ _ _ z=>nomatch z⟩
 ·obtain ⟨i,b,k,h1,h2,h3⟩:=get F hF
  obtain ⟨_,_,kl,rl,ro,_⟩:=h i b k F h1 h2 h3
  obtain ⟨lb,_,mt⟩:=ro r hr
  refine ⟨fun q e=>?_,fun x q e=>?_⟩
  ·subst e
   have mt:q < b.length + 1:=mt
   omega
  ·subst e
   have mt:q < b.length + 1:=mt
   omega
 ·have sm:∀ (fs:List Fu) (cs:List (List Int)),fs.length=cs.length→(∀ (i:Nat) (b:List Int) (F:Fu),cs[i]?=some b→fs[i]?=some F→(F.rows.map wtR).sum ≤ 1 + wtB b)→(fs.map fun F=>(fnE P F).length).sum ≤ total cs:=by
   intro fs
   induction fs with
   |nil=>intro cs _ _;exact Nat.zero_le _
   |cons F fs ih =>
    intro cs e k
    cases cs with
    |nil=>cases e
    |cons c cs =>
     have h1:=k 0 c F rfl rfl
     have h2:=ih cs (by simpa using e) fun i b F h1 h2=>k (i + 1) b F h1 h2
     have:total (c :: cs)=(1 + wtB c) + total cs:=rfl
     rw [List.map_cons,List.sum_cons,fnE_wt,this]
     omega
  have:many (chartQ P P)=(P.map fun F=>(fnE P F).length).sum:=by unfold many chartQ;rw [List.map_map];rfl
  rw [this]
  refine Nat.le_trans (sm P bs l1 fun i b F h1 h3=>?_) t
  obtain ⟨k,h2⟩:∃ k,gv[i]?=some k:=⟨_,List.getElem?_eq_getElem (by have:=(List.getElem?_eq_some_iff.mp h1).1;omega)⟩
  exact (h i b k F h1 h2 h3).2.2.2.2.2
theorem rd_ren{o:List Nat}{many:Nat}{gv:List Nat}{r:Rw}(hr:rdOk 4 many gv r)(ho:∀ x ∈ labs r,x ∈ o):rdOk o.length many gv (renR o r):=by
 obtain ⟨h1,h2,h3⟩:=hr
 have ix:∀ x ∈ labs r,o.idxOf x < o.length:=fun x hx=>List.idxOf_lt_length_of_mem (ho x hx)
 cases r with
 |to q=>exact ⟨(fun x hx=>nomatch hx),h2,h3⟩
 |num x k=>exact ⟨fun y hy=>by have hy:y ∈ [o.idxOf x]:=hy;rw [List.mem_singleton.mp hy];exact ix x (by simp [labs]),h2,trivial⟩
 |dye x=>exact ⟨fun y hy=>by have hy:y ∈ [o.idxOf x]:=hy;rw [List.mem_singleton.mp hy];exact ix x (by simp [labs]),h2,trivial⟩
 |wash x=>exact ⟨fun y hy=>by have hy:y ∈ [o.idxOf x]:=hy;rw [List.mem_singleton.mp hy];exact ix x (by simp [labs]),h2,trivial⟩
 |ret x=>exact ⟨fun y hy=>by have hy:y ∈ [o.idxOf x]:=hy;rw [List.mem_singleton.mp hy];exact ix x (by simp [labs]),h2,trivial⟩
 |ifq x q=>exact ⟨fun y hy=>by have hy:y ∈ [o.idxOf x]:=hy;rw [List.mem_singleton.mp hy];exact ix x (by simp [labs]),h2,h3⟩
 |copy x y=>exact ⟨fun z hz=>by
   have hz:z ∈ [o.idxOf x,o.idxOf y]:=hz
   simp at hz
   rcases hz with q | q <;> rw [q]
   ·exact ix x (by simp [labs])
   ·exact ix y (by simp [labs]),h2,trivial⟩
 |does x w y u=>exact ⟨fun z hz=>by
   have hz:z ∈ [o.idxOf x,o.idxOf y,o.idxOf u]:=hz
   simp at hz
   rcases hz with q | q | q <;> rw [q]
   ·exact ix x (by simp [labs])
   ·exact ix y (by simp [labs])
   ·exact ix u (by simp [labs]),h2,h3⟩
 |call x g ys=>exact ⟨fun z hz=>by
   have hz:z ∈ o.idxOf x :: ys.map o.idxOf:=hz
   rcases List.mem_cons.mp hz with q | q
   ·rw [q];exact ix x (by simp [labs])
   ·obtain ⟨y,hy,rfl⟩:=List.mem_map.mp q
    exact ix y (by simp [labs,hy]),by show (ys.map o.idxOf).length + 1 ≤ 10;rw [List.length_map];exact h2,by show gv[g]?=some (ys.map o.idxOf).length;rw [List.length_map];exact h3⟩
theorem wt_ren(o:List Nat)(r:Rw):wtR (renR o r)=wtR r:=by cases r <;> rfl
noncomputable def opOk:Rw→Prop
 |.does _ o _ _=>PyData.strOk o=true
 |_=>True
noncomputable def TxF(F:Fu):Prop:=PyData.strOk F.name=true∧(∀ v ∈ F.vars,PyData.strOk v=true)∧∀ r ∈ F.rows,opOk r
noncomputable def S_q16:DSp:=fun ds h Q=>∃ (ns:List Int) (ws nm:List Str),ds=[.scr (ns.map .int),.lst (ws.map .str),.lst (nm.map .str),.tup [.int 6,.int 9,.int 24,.int 4]]∧ns.length ≤ 63∧(∀ x ∈ ns,Builtin.Int.intBits x ≤ 1048576)∧ws.length=6∧nm.length=4∧(∀ s ∈ ws,PyData.strOk s=true)∧(∀ s ∈ nm,PyData.strOk s=true)∧∀ P:List Fu,PrG P→many (chartQ P P) ≤ 24→(∀ F ∈ P,VarOk nm F)→(∀ F ∈ P,TxF F)→Q (.lst (P.map fuD)) h
theorem imp_q16:∀ ds h Q,S_q16 ds h Q→runD 18 b_q16 ds h (Dr h Q):=by
 rintro ds h Q ⟨ns,ws,nm,rfl,hl,hb,w6,n4,wok,nok,q⟩
 delta runD b_q16;simp only [List.map_cons,List.map_nil,List.cons_append,List.nil_append,List.length_cons,List.length_nil,List.replicate,Nat.reduceSub,Nat.reduceAdd,Nat.zero_add,Nat.sub_self]
 (try dsimp only);refine seq_intro fun N hN=>?_
 simp only [VV]
 refine ⟨ns,7,rfl,hl,hb,by decide,fun r7=>?_⟩
 simp only [VV]
 refine ⟨by decide,?_⟩
 generalize (r7 % 2 == 1)=free
 subst hN
 (try dsimp only);refine seq_intro fun N hN=>?_
 simp only [VV]
 subst hN
 (try dsimp only);refine seq_intro fun N hN=>?_
 simp only [VV]
 refine ⟨ns,9,54,rfl,hl,hb,by decide,by decide,fun cs hcs=>?_⟩
 simp only [VV]
 refine ⟨cs,rfl,by first | decide | omega,fun bs b1 b6 b8 t24=>?_⟩
 subst hN
 (try dsimp only);refine seq_intro fun N hN=>?_
 simp only [List.length_map,VV]
 refine ⟨⟨by first | decide | omega,by first | decide | omega⟩,by rw [rangeD_length];omega,?_⟩
 rw [rangeD_map,Int.toNat_natCast]
 refine compL_map (fun p a δ h'=>h'=h∧(∃ o,δ=[o,some (.scr (ns.map D.int))])∧∃ vs:List Int,a=vs.map D.int∧vs.length=p.length) ⟨rfl,⟨_,rfl⟩,[],rfl,rfl⟩ (fun _ _ _ _ _=>Src.ok_nil) ?_ ?_
 ·rintro p y r acc δ h' N e ⟨rfl,⟨o,rfl⟩,vs,rfl,lv⟩ hN
  obtain ⟨rfl,hy⟩:=range_split e
  simp only [VV]
  refine ⟨ns,p.length,by rw [Int.zero_add],hl,hb,by first | decide | omega,fun r=>?_⟩
  exact hN _ _ _ ⟨rfl,⟨_,rfl⟩,vs ++ [r],by rw [List.map_append];rfl,by simp [lv]⟩
 rintro a δ h' ⟨rfl,_,hs,rfl,lv⟩
 rw [List.length_range] at lv
 subst hN
 (try dsimp only);refine seq_intro fun N hN=>?_
 simp only [VV]
 refine ⟨by rw [List.length_map];omega,?_⟩
 refine comp1n (fun x:Int=>.int (x % (4 + 1))) Src.ok_nil none (fun x hx K k=>by simp only [VV];exact ⟨by decide,k⟩) ?_
 have eg:(hs.map fun x:Int=>D.int (x % (4 + 1)))=(hs.map fun x=>(x % 5).toNat).map nD:=by
  rw [List.map_map]
  apply List.map_congr_left
  intro x hx
  show D.int (x % 5) = .int (((x % 5).toNat:Nat):Int)
  rw [Int.toNat_of_nonneg (Int.emod_nonneg _ (by decide))]
 generalize hgv:(hs.map fun x=>(x % 5).toNat)=gv at eg
 have gl:gv.length=bs.length:=by rw [← hgv,List.length_map,lv]
 have g4:∀ k ∈ gv,k ≤ 4:=fun k hk=>by
  rw [← hgv] at hk
  obtain ⟨x,_,rfl⟩:=List.mem_map.mp hk
  omega
 rw [eg]
 subst hN
 (try dsimp only);refine seq_intro fun N hN=>?_
 simp only [VV]
 subst hN
 (try dsimp only);refine seq_intro fun N hN=>?_
 simp only [VV]
 rw [enumD_map]
 refine forL_map (fun p δ hh=>∃ (Ps:List Fu) (g:Hh) (x10 x11 x12 x13 x14 x15 x16 x17:Option D),δ=[some (.scr (ns.map .int)),some (.lst (ws.map .str)),some (.lst (nm.map .str)),some (.tup [.int 6,.int 9,.int 24,.int 4]),some (.bl free),some (.int 4),some (.lst (bs.map boD)),some (.lst (hs.map .int)),some (.lst (gv.map nD)),some (.ref h'.length),x10,x11,x12,x13,x14,x15,x16,x17]∧hh=h' ++ (.lst (Ps.map fuD) :: g)∧Ps.length=p.length∧∀ (i:Nat) (b:List Int) (k:Nat) (F:Fu),bs[i]?=some b→gv[i]?=some k→Ps[i]?=some F→FuOk gv nm b k F) ⟨[],[],none,none,none,none,none,none,none,none,rfl,rfl,rfl,fun i b k F _ _ h3=>nomatch h3⟩ (fun _ _ _ _=>Src.ok_nil) ?_ ?_
 ·rintro p ⟨b,i⟩ rest δ hh N1 e ⟨Ps,g,x10,x11,x12,x13,x14,x15,x16,x17,rfl,rfl,pl,pok⟩ hN1
  obtain ⟨hi,hbi⟩:=zip_at e
  have il:=(List.getElem?_eq_some_iff.mp hbi).1
  have bl8:=b8 b (List.mem_of_getElem? hbi)
  obtain ⟨hd,hhd⟩:∃ x,hs[p.length]?=some x:=⟨_,List.getElem?_eq_getElem (by first | decide | omega)⟩
  obtain ⟨k,hk⟩:∃ x,gv[p.length]?=some x:=⟨_,List.getElem?_eq_getElem (by first | decide | omega)⟩
  obtain ⟨wd_,hwd⟩:∃ x,ws[p.length]?=some x:=⟨_,List.getElem?_eq_getElem (by first | decide | omega)⟩
  have k4:=g4 k (List.mem_of_getElem? hk)
  have ixH:atI (hs.map D.int) (0 + (i:Int))=some (.int hd):=by rw [Int.zero_add,hi,atN,List.getElem?_map,hhd];rfl
  have ixK:atI (gv.map nD) (0 + (i:Int))=some (nD k):=by rw [Int.zero_add,hi,atN,List.getElem?_map,hk];rfl
  have ixW:atI (ws.map D.str) (0 + (i:Int))=some (.str wd_):=by rw [Int.zero_add,hi,atN,List.getElem?_map,hwd];rfl
  generalize hh1:h' ++ (.lst (Ps.map fuD) :: g)=h1
  simp only [VV]
  refine ⟨trivial,?_⟩
  (try dsimp only);refine seq_intro fun N hN=>?_
  simp only [boD,VV]
  refine ⟨by rw [List.length_map];omega,?_⟩
  refine compL_map (fun p' a δ hh=>hh=h1∧(∃ o,δ=[o,some (.lst (gv.map nD)),some (.lst (b.map D.int)),some (.int 4),some (.bl free)])∧∃ rs:List Rw,a=rs.map roD∧rs.length=p'.length∧(∀ r ∈ rs,rdOk 4 (b.length + 1) gv r)∧(rs.map wtR).sum ≤ wtB p') ⟨rfl,⟨_,rfl⟩,[],rfl,rfl,(fun r hr=>nomatch hr),Nat.le_refl _⟩ (fun _ _ _ _ _=>Src.ok_nil) ?_ ?_
  ·rintro p' c r acc δ hh N e' ⟨rfl,⟨o,rfl⟩,rs,rfl,rl,rok,rw_⟩ hN
   simp only [List.length_map,VV]
   refine ⟨c,gv,b.length + 1,4,free,by rw [Int.natCast_add];rfl,by decide,by decide,by first | decide | omega,by first | decide | omega,by first | decide | omega,by first | decide | omega,g4,fun r1 r1ok r1w=>?_⟩
   refine hN _ _ _ ⟨rfl,⟨_,rfl⟩,rs ++ [r1],by rw [List.map_append];rfl,by simp [rl],fun r hr=>?_,?_⟩
   ·rcases List.mem_append.mp hr with z | z
    ·exact rok r z
    ·rw [List.mem_singleton.mp z];exact r1ok
   ·have:wtR r1 ≤ wtC c:=by
     unfold wtC
     by_cases z:c % 11=6
     ·rw [if_pos z];cases r1 <;> exact Nat.le_of_ble_eq_true rfl
     ·rw [if_neg z]
      cases r1 with
      |ifq x q=>exact absurd (r1w rfl) z
      |_=>exact Nat.le_refl 1
    unfold wtB at rw_ ⊢
    rw [List.map_append,List.map_append,List.sum_append,List.sum_append]
    simp
    omega
  rintro a δ hh ⟨rfl,_,rs,rfl,rl,rok,rwt⟩
  subst hN
  (try dsimp only);refine seq_intro fun N hN=>?_
  simp only [ixH,VV]
  refine ⟨⟨by decide,by decide⟩,?_⟩
  generalize hd / (4 + 1)=last
  subst hN
  (try dsimp only);refine seq_intro fun N hN=>?_
  simp only [get_new,set_new,List.length_map,VV]
  obtain ⟨r0,er,r0ok,r0w⟩:∃ r:Rw,atI [D.tup [D.str "to",D.int (last / 3 % ((b.length:Int) + 1))],D.tup [D.str "return",D.int (last / 3 % 4)]] (if last % 3 < 1 then last % 3 else 1)=some (roD r)∧rdOk 4 (b.length + 1) gv r∧wtR r=1:=by
   obtain ⟨t,ht,et⟩:=mdN (last / 3) (b.length + 1) (by first | decide | omega)
   obtain ⟨x,hx,ex⟩:=mdN (last / 3) 4 (by decide)
   rw [Int.natCast_add] at et
   have et:last / 3 % ((b.length:Int) + 1)=(t:Int):=et
   have ex:last / 3 % 4=(x:Int):=ex
   rw [et,ex]
   by_cases z:last % 3 < 1
   ·have z0:last % 3=0:=by first | decide | omega
    rw [if_pos z,z0]
    exact ⟨.to t,rfl,⟨(fun x hx=>nomatch hx),Nat.le_of_ble_eq_true rfl,ht⟩,rfl⟩
   ·rw [if_neg z]
    exact ⟨.ret x,rfl,⟨fun y hy=>by have hy:y ∈ [x]:=hy;rw [List.mem_singleton.mp hy];exact hx,Nat.le_of_ble_eq_true rfl,trivial⟩,rfl⟩
  rw [er]
  refine ⟨⟨by decide,by decide⟩,by first | decide | omega,⟨by decide,by decide⟩,by decide,by decide,by first | decide | omega,?_⟩
  have em:rs.map roD ++ [roD r0]=(rs ++ [r0]).map roD:=by rw [List.map_append];rfl
  rw [em]
  have Rl:(rs ++ [r0]).length=b.length + 1:=by rw [List.length_append,rl];rfl
  have Rok:∀ r ∈ rs ++ [r0],rdOk 4 (b.length + 1) gv r:=fun r hr=>by
   rcases List.mem_append.mp hr with z | z
   ·exact rok r z
   ·rw [List.mem_singleton.mp z];exact r0ok
  have Rw_:((rs ++ [r0]).map wtR).sum ≤ 1 + wtB b:=by
   rw [List.map_append,List.sum_append]
   simp
   omega
  generalize rs ++ [r0]=R at Rl Rok Rw_
  clear rl rok rwt er r0ok r0w em
  subst hN
  (try dsimp only);refine seq_intro fun N hN=>?_
  simp only [ixK,VV]
  refine ⟨⟨by first | decide | omega,by first | decide | omega⟩,by first | decide | omega,?_⟩
  have ek:rangeD 0 ((k:Int)).toNat=(List.range k).map nD:=by
   rw [rangeD_map,Int.toNat_natCast]
   apply List.map_congr_left
   intro x _
   rw [Int.zero_add]
  rw [ek]
  have l2':lsOf (hh ++ [O.lst (R.map roD)]) (.ref hh.length)=some (R.map roD):=ls_new _ _
  generalize hh2:hh ++ [O.lst (R.map roD)]=h2 at l2'
  subst hN
  (try dsimp only);refine seq_intro fun N hN=>?_
  obtain ⟨w,s1,s2⟩:=src_pre l2'
  simp only [s1 _ (Pre.app _ _),VV]
  refine forL_map (fun p1 δ hx=>∃ (o:List Nat) (x15 x16:Option D),δ=[some (.scr (ns.map .int)),some (.lst (ws.map .str)),some (.lst (nm.map .str)),some (.tup [.int 6,.int 9,.int 24,.int 4]),some (.bl free),some (.int 4),some (.lst (bs.map boD)),some (.lst (hs.map .int)),some (.lst (gv.map nD)),some (.ref h'.length),some (.int (0 + (i:Int))),some (.lst (b.map D.int)),some (.ref hh.length),some (.int last),some (.ref h2.length),x15,x16,x17]∧hx=h2 ++ [.lst (o.map nD)]∧o.Nodup∧(∀ x ∈ o,x < 4)∧k ≤ o.length∧∀ r ∈ p1,∀ x ∈ labs r,x ∈ o) ⟨List.range k,x15,x16,rfl,rfl,List.nodup_range,fun x hx=>by have:=List.mem_range.mp hx;omega,by simp,fun r hr=>nomatch hr⟩ ?_ ?_ ?_
  ·rintro p1 δ hx ⟨o,x15,x16,rfl,rfl,_⟩
   exact s2 _ _ (Pre.app _ _)
  ·rintro p1 r rest1 δ hx N3 e1 ⟨o,x15,x16,rfl,rfl,nd,lt,kl,cov⟩ hN3
   have rk:=Rok r (by rw [e1];simp)
   simp only [VV]
   refine ⟨r,rfl,Nat.le_trans rk.2.1 (by decide),?_⟩
   simp only [VV]
   refine forL_map (fun p2 δ hx=>∃ (o2:List Nat) (x16:Option D),δ=[some (.scr (ns.map .int)),some (.lst (ws.map .str)),some (.lst (nm.map .str)),some (.tup [.int 6,.int 9,.int 24,.int 4]),some (.bl free),some (.int 4),some (.lst (bs.map boD)),some (.lst (hs.map .int)),some (.lst (gv.map nD)),some (.ref h'.length),some (.int (0 + (i:Int))),some (.lst (b.map D.int)),some (.ref hh.length),some (.int last),some (.ref h2.length),some (roD r),x16,x17]∧hx=h2 ++ [.lst (o2.map nD)]∧o2.Nodup∧(∀ x ∈ o2,x < 4)∧k ≤ o2.length∧(∀ r ∈ p1,∀ x ∈ labs r,x ∈ o2)∧∀ x ∈ p2,x ∈ o2) ⟨o,x16,rfl,rfl,nd,lt,kl,cov,fun x hx=>nomatch hx⟩ (fun _ _ _ _=>Src.ok_nil) ?_ ?_
   ·rintro p2 x r2 δ hx N4 e2 ⟨o2,x16,rfl,rfl,nd2,lt2,kl2,cov2,c3⟩ hN4
    have hx4:x < 4:=rk.1 x (by rw [e2];simp)
    have o4:=nd_len 4 o2 nd2 lt2
    have lo:seqOf (h2 ++ [O.lst (o2.map nD)]) (.ref h2.length)=some (o2.map nD):=seq_ls (ls_new _ _)
    simp only [lo,inF_nat,VV]
    refine ⟨by rw [flat_ints];rfl,?_⟩
    cases c:o2.contains x with
    |false =>
     have nm_:x ∉ o2:=by simpa using c
     simp only [get_new,set_new,List.length_map,VV]
     refine ⟨by first | decide | omega,hN4 _ _ ⟨o2 ++ [x],_,rfl,by rw [List.map_append];rfl,?_,?_,by rw [List.length_append];omega,fun r hr y hy=>List.mem_append_left _ (cov2 r hr y hy),fun y hy=>?_⟩⟩
     ·rw [List.nodup_append]
      exact ⟨nd2,by simp,fun a ha b hb=>by rw [List.mem_singleton.mp hb];exact fun q=>nm_ (q ▸ ha)⟩
     ·intro y hy
      rcases List.mem_append.mp hy with z | z
      ·exact lt2 y z
      ·rw [List.mem_singleton.mp z];exact hx4
     ·rcases List.mem_append.mp hy with z | z
      ·exact List.mem_append_left _ (c3 y z)
      ·exact List.mem_append_right _ z
    |true =>
     have nm_:x ∈ o2:=by simpa using c
     simp only [VV]
     refine hN4 _ _ ⟨o2,_,rfl,rfl,nd2,lt2,kl2,cov2,fun y hy=>?_⟩
     rcases List.mem_append.mp hy with z | z
     ·exact c3 y z
     ·rw [List.mem_singleton.mp z];exact nm_
   ·rintro δ hx ⟨o2,x16,rfl,rfl,nd2,lt2,kl2,cov2,c3⟩
    refine hN3 _ _ ⟨o2,_,_,rfl,rfl,nd2,lt2,kl2,fun r' hr' y hy=>?_⟩
    rcases List.mem_append.mp hr' with z | z
    ·exact cov2 r' z y hy
    ·rw [List.mem_singleton.mp z] at hy;exact c3 y hy
  rintro δ hx ⟨o,x15,x16,rfl,rfl,nd,lt,kl,cov⟩
  have o4:=nd_len 4 o nd lt
  subst hN
  (try dsimp only);refine seq_intro fun N hN=>?_
  simp only [seqSrc_ref (get_new h2 (O.lst (o.map nD))),VV]
  refine ⟨by rw [List.length_map];omega,?_⟩
  refine comp1n (fun j:Nat=>D.str (nm.getD j "")) (fun z hz=>by rw [List.mem_singleton.mp hz];exact get_new _ _) none (fun j hj K kk=>?_) ?_
  ·have j4:=lt j hj
   have ixn:atI (nm.map D.str) (j:Int)=some (.str (nm.getD j "")):=by rw [atN,List.getElem?_map,List.getD_eq_getElem?_getD,List.getElem?_eq_getElem (by first | decide | omega)];rfl
   simp only [ixn,VV]
   exact kk
  subst hN
  have g0:(h2 ++ [O.lst (o.map nD)])[h'.length]?=some (.lst (Ps.map fuD)):=by
   rw [← hh2,← hh1,List.append_assoc,List.append_assoc,List.getElem?_append_right (Nat.le_refl _),Nat.sub_self];rfl
  have g1:∀ X,(h2 ++ [O.lst (o.map nD)]).set h'.length (.lst X)=h' ++ (.lst X :: (g ++ [O.lst (R.map roD),O.lst (o.map nD)])):=fun X=>by
   rw [← hh2,← hh1,List.append_assoc,List.append_assoc,List.set_append_right _ _ (Nat.le_refl _),Nat.sub_self]
   simp
  simp only [g0,ixW,ixK,s1 _ (Pre.app _ _),VV]
  refine ⟨by rw [List.length_map];omega,?_⟩
  refine comp1n (fun r=>roD (renR o r)) (s2 _ _ (Pre.app _ _)) none (fun r hr K kk=>?_) ?_
  ·simp only [VV]
   exact ⟨r,.ref h2.length,o,rfl,ls_new _ _,by first | decide | omega,cov r hr,Nat.le_trans (Rok r hr).2.1 (by decide),kk⟩
  rw [g0]
  dsimp only
  refine ⟨by rw [List.length_map];omega,?_⟩
  rw [g1]
  have eF:D.tup [.str wd_,nD k,.tup (o.map fun j:Nat=>D.str (nm.getD j "")),.tup (R.map fun r=>roD (renR o r))]=fuD ⟨wd_,k,o.map (fun j=>nm.getD j ""),R.map (renR o)⟩:=by
   unfold fuD
   dsimp only
   rw [List.map_map,List.map_map];rfl
  rw [eF]
  refine hN1 _ _ ⟨Ps ++ [⟨wd_,k,o.map (fun j=>nm.getD j ""),R.map (renR o)⟩],_,_,_,_,_,_,_,_,_,rfl,by rw [List.map_append];rfl,by simp [pl],fun i' b' k' F' q1 q2 q3=>?_⟩
  rcases Nat.lt_or_ge i' Ps.length with z | z
  ·rw [List.getElem?_append_left z] at q3
   exact pok i' b' k' F' q1 q2 q3
  ·have zi:i'=p.length:=by
    have:=(List.getElem?_eq_some_iff.mp q3).1
    rw [List.length_append,List.length_singleton] at this;omega
   subst zi
   rw [List.getElem?_append_right z,show p.length - Ps.length=0 by first | decide | omega] at q3
   rw [hbi] at q1
   rw [hk] at q2
   cases q1;cases q2;cases q3
   refine ⟨wok _ (List.mem_of_getElem? hwd),⟨o,nd,fun x hx=>by rw [n4];exact lt x hx,rfl⟩,by show k ≤ (o.map _).length;rw [List.length_map];exact kl,by show (R.map _).length=_;rw [List.length_map];exact Rl,fun r hr=>?_,?_⟩
   ·obtain ⟨r',hr',rfl⟩:=List.mem_map.mp hr
    show rdOk (o.map _).length _ _ _
    rw [List.length_map]
    exact rd_ren (Rok r' hr') (cov r' hr')
   ·show ((R.map (renR o)).map wtR).sum ≤ _
    rw [List.map_map,show (wtR ∘ renR o)=wtR from funext (wt_ren o)]
    exact Rw_
 ·rintro δ hh ⟨Ps,g,x10,x11,x12,x13,x14,x15,x16,x17,rfl,rfl,pl,pok⟩
  rw [List.length_zipIdx] at pl
  obtain ⟨pg,pm⟩:=prog_ok pl gl b1 b6 b8 t24 (Nat.le_of_eq n4) pok
  subst hN
  simp only [VV]
  have all:∀ F ∈ Ps,∃ b k,FuOk gv nm b k F:=fun F hF=>by
   obtain ⟨i,hi⟩:=List.mem_iff_getElem?.mp hF
   have il:=(List.getElem?_eq_some_iff.mp hi).1
   exact ⟨_,_,pok i _ _ F (List.getElem?_eq_getElem (by first | decide | omega)) (List.getElem?_eq_getElem (by first | decide | omega)) hi⟩
  have:=Dr.dropL (h:=h') (Q:=Q) (xs:=Ps.map fuD) (g1:=[]) (g2:=g) (k:=h'.length) (nrDs_map nrD_fuD _) (by simp) (q Ps pg pm (fun F hF=>by obtain ⟨b,k,z⟩:=all F hF;exact z.2.1) (fun F hF=>by
   obtain ⟨b,k,t1,⟨o,nd,lt,ev⟩,t3,t4,t5,t6⟩:=all F hF
   refine ⟨t1,fun v hv=>?_,fun r hr=>?_⟩
   ·rw [ev] at hv
    obtain ⟨j,hj,rfl⟩:=List.mem_map.mp hv
    have:=lt j hj
    rw [List.getD_eq_getElem?_getD,List.getElem?_eq_getElem this]
    exact nok _ (List.getElem_mem this)
   ·have:=(t5 r hr).2.2
    cases r with
    |does x o y z=>exact this
    |_=>exact trivial))
  simpa using this
theorem ok_q16{f:Addr}{fd:FuncData}(F:Fun K "_law_program" "_law_program" s_q16 f fd)(T:Txt P w K mg)(C_q4:Cal P w K mg base 1 "_law_cell_at" ["_law_script","_law_k"] (spD K 2 S_q4))(C_q5:Cal P w K mg base 2 "_law_cells" ["_law_script","_law_first","_law_most"] (spD K 3 S_q5))(C_q2:Cal P w K mg base 1 "_law_bodies" ["_law_cells_here","_law_sizes"] (spD K 2 S_q2))(C_q7:Cal P w K mg base 3 "_law_drawn_row" ["_law_cell","_law_gives","_law_many","_law_labels_here","_law_free"] (spD K 5 S_q7))(C_q13:Cal P w K mg base 1 "_law_labels" ["_law_row"] (spD K 1 S_q13))(C_q17:Cal P w K mg base 1 "_law_renumbered" ["_law_row","_law_order"] (spD K 2 S_q17)):FnOk P w K mg base CX0 4 f fd ["_law_script","_law_words","_law_names_here","_law_sizes"] (spD K 4 S_q16) :=
 fn_okD (k:=3) (b:=b_q16) F sc_q16 (fun cdv A outer s H E hr=>by
  refine ss_cons ?_ ?_
  ·refine s_set (i:=4) ?_ ?_ ?_ ?_
   ·exact sc_q16.nd
   ·exact rfl
   ·exact Or.inr rfl
   exact se_cmp (ok_eq hr.units) (se_op ok_mod (se_cal C_q4 (hr.mono (by decide)) rfl (sa_cons (sv 0) (sa_cons se_int sa_nil))) se_int) se_int (nomark _)
  refine ss_cons ?_ ?_
  ·refine s_set (i:=5) ?_ ?_ ?_ ?_
   ·exact sc_q16.nd
   ·exact rfl
   ·exact Or.inr rfl
   exact se_ix ok_ix (sv 3) se_int (fun _ _=>rfl)
  refine ss_cons ?_ ?_
  ·refine s_set (i:=6) ?_ ?_ ?_ ?_
   ·exact sc_q16.nd
   ·exact rfl
   ·exact Or.inl rfl
   exact se_cal C_q2 (hr.mono (by decide)) rfl (sa_cons (se_cal C_q5 (hr.mono (by decide)) rfl (sa_cons (sv 0) (sa_cons se_int (sa_cons se_int sa_nil)))) (sa_cons (sv 3) sa_nil))
  refine ss_cons ?_ ?_
  ·exact s_setcV (i:=7) (hN:=sc_q16.nd) (hix:=rfl) (hx:=(Or.inl rfl)) rfl (N':= ["_law_f","_law_script"]) (js:=[none,some 0]) ⟨rfl,by decide +kernel,rfl,rfl,rfl⟩ (si_range1 rfl T.b_range (sa_cons (se_callB ok_len rfl T.b_len PySem.boot_len (sa_cons (sv 6) sa_nil)) sa_nil)) (fun s0 H0 fp=>⟨(sg_name (i:=0) (show (["_law_f","_law_script"]:List Str).Nodup by decide +kernel) rfl (Or.inl rfl)),sf_nil,(se_cal C_q4 (hr.mono (by decide)) rfl (sa_cons (sv 1) (sa_cons (sv 0) sa_nil)))⟩)
  refine ss_cons ?_ ?_
  ·refine s_set (i:=8) ?_ ?_ ?_ ?_
   ·exact sc_q16.nd
   ·exact rfl
   ·exact Or.inr rfl
   refine se_v ?_
   exact sn_comp rfl (N':= ["_law_head","_law_labels_here"]) (js:=[none,some 5]) ⟨rfl,by decide +kernel,rfl,rfl,rfl⟩ (si_seq (sv 7)) (fun s0 H0 fp=>⟨(sg_name (i:=0) (show (["_law_head","_law_labels_here"]:List Str).Nodup by decide +kernel) rfl (Or.inl rfl)),sf_nil,(se_op ok_mod (sv 0) (se_op ok_plus (sv 1) se_int))⟩)
  refine ss_cons ?_ ?_
  ·refine s_set (i:=9) ?_ ?_ ?_ ?_
   ·exact sc_q16.nd
   ·exact rfl
   ·exact Or.inl rfl
   exact se_t (sn_lst sa_nil)
  refine ss_cons ?_ ?_
  ·refine s_for ?_ ?_ ?_ ?_ ?_
   ·exact PassesOwn.never
   ·exact rfl
   ·exact si_enum rfl T.b_enumerate (sa_cons (sv 6) sa_nil)
   ·exact sg_tup rfl (sgs_cons (sg_name (i:=10) sc_q16.nd rfl (Or.inl rfl)) (sgs_cons (sg_name (i:=11) sc_q16.nd rfl (Or.inr rfl)) sgs_nil))
   refine ss_cons ?_ ?_
   ·exact s_setcT (i:=12) (hN:=sc_q16.nd) (hix:=rfl) (hx:=(Or.inl rfl)) rfl (N':= ["_law_cell","_law_gives","_law_body","_law_labels_here","_law_free"]) (js:=[none,some 8,some 11,some 5,some 4]) ⟨rfl,by decide +kernel,rfl,rfl,rfl⟩ (si_seq (sv 11)) (fun s0 H0 fp=>⟨(sg_name (i:=0) (show (["_law_cell","_law_gives","_law_body","_law_labels_here","_law_free"]:List Str).Nodup by decide +kernel) rfl (Or.inl rfl)),sf_nil,(se_cal C_q7 (hr.mono (by decide)) rfl (sa_cons (sv 0) (sa_cons (sv 1) (sa_cons (se_op ok_plus (se_callB ok_len rfl T.b_len PySem.boot_len (sa_cons (sv 2) sa_nil)) se_int) (sa_cons (sv 3) (sa_cons (sv 4) sa_nil))))))⟩)
   refine ss_cons ?_ ?_
   ·refine s_set (i:=13) ?_ ?_ ?_ ?_
    ·exact sc_q16.nd
    ·exact rfl
    ·exact Or.inl rfl
    exact se_op ok_div (se_ix ok_ix (sv 7) (sv 10) (fun _ _=>rfl)) (se_op ok_plus (sv 5) se_int)
   refine ss_cons ?_ ?_
   ·refine s_expr ?_
    exact se_append (sv 12) (sa_cons (se_ix ok_ix (se_v (sn_lst (sa_cons (se_tup (sa_cons se_str (sa_cons (se_op ok_mod (se_op ok_div (sv 13) se_int) (se_op ok_plus (se_callB ok_len rfl T.b_len PySem.boot_len (sa_cons (sv 11) sa_nil)) se_int)) sa_nil))) (sa_cons (se_tup (sa_cons se_str (sa_cons (se_op ok_mod (se_op ok_div (sv 13) se_int) (sv 5)) sa_nil))) sa_nil)))) (se_callB (ok_min rfl) rfl T.b_min PyProof.Rows.boot_min (sa_cons se_int (sa_cons (se_op ok_mod (sv 13) se_int) sa_nil))) (fun _ _=>rfl)) sa_nil)
   refine ss_cons ?_ ?_
   ·refine s_set (i:=14) ?_ ?_ ?_ ?_
    ·exact sc_q16.nd
    ·exact rfl
    ·exact Or.inr rfl
    exact se_t (sn_listRng1 rfl rfl T.b_list rfl T.b_range (sa_cons (se_ix ok_ix (sv 8) (sv 10) (fun _ _=>rfl)) sa_nil))
   refine ss_cons ?_ ?_
   ·refine s_for ?_ ?_ ?_ ?_ ?_
    ·exact PassesOwn.never
    ·exact rfl
    ·exact si_seq (sv 12)
    ·exact sg_name (i:=15) sc_q16.nd rfl (Or.inl rfl)
    refine ss_one ?_
    refine s_for ?_ ?_ ?_ ?_ ?_
    ·exact PassesOwn.never
    ·exact rfl
    ·exact si_seq (se_cal C_q13 (hr.mono (by decide)) rfl (sa_cons (sv 15) sa_nil))
    ·exact sg_name (i:=16) sc_q16.nd rfl (Or.inl rfl)
    refine ss_one ?_
    refine s_if ?_ ?_ ?_
    ·exact st_cmp ok_notin (sv 16) (sv 14) rfl
    ·refine ss_one ?_
     refine s_expr ?_
     exact se_append (sv 14) (sa_cons (sv 16) sa_nil)
    exact ss_nil
   refine ss_cons ?_ ?_
   ·refine s_set (i:=17) ?_ ?_ ?_ ?_
    ·exact sc_q16.nd
    ·exact rfl
    ·exact Or.inl rfl
    exact se_callTy ok_tuple rfl T.b_tuple PyProof.Rows.boot_tuple (sa_cons (se_v (sn_comp rfl (N':= ["_law_label","_law_names_here"]) (js:=[none,some 2]) ⟨rfl,by decide +kernel,rfl,rfl,rfl⟩ (si_seq (sv 14)) (fun s0 H0 fp=>⟨(sg_name (i:=0) (show (["_law_label","_law_names_here"]:List Str).Nodup by decide +kernel) rfl (Or.inl rfl)),sf_nil,(se_ix ok_ix (sv 1) (sv 0) (fun _ _=>rfl))⟩))) sa_nil)
   refine ss_one ?_
   refine s_expr ?_
   exact se_append (sv 9) (sa_cons (se_tup (sa_cons (se_ix ok_ix (sv 1) (sv 10) (fun _ _=>rfl)) (sa_cons (se_ix ok_ix (sv 8) (sv 10) (fun _ _=>rfl)) (sa_cons (sv 17) (sa_cons (se_callTy ok_tuple rfl T.b_tuple PyProof.Rows.boot_tuple (sa_cons (se_v (sn_comp rfl (N':= ["_law_row","_law_order"]) (js:=[none,some 14]) ⟨rfl,by decide +kernel,rfl,rfl,rfl⟩ (si_seq (sv 12)) (fun s0 H0 fp=>⟨(sg_name (i:=0) (show (["_law_row","_law_order"]:List Str).Nodup by decide +kernel) rfl (Or.inl rfl)),sf_nil,(se_cal C_q17 (hr.mono (by decide)) rfl (sa_cons (sv 0) (sa_cons (sv 1) sa_nil)))⟩))) sa_nil)) sa_nil))))) sa_nil)
  refine ss_one ?_
  refine s_ret ?_
  exact sv 9) imp_q16
noncomputable def b_q9:DS:=(dSeq (dIfS (dOr (dNot (dTr (dIsinst "list" (dVar 0)))) (dTst (dOp (pEq true) (dCB pLen (dCons (dVar 0) dNil)) (dCB pLen (dCons (dVar 1) dNil))))) (dRet (dC (.bl false))) dNext)
  (dSeq (dFor (dIEnum (dCons (dVar 0) dNil)) (dUnp 2 (dGCons (dName 2) (dGCons (dName 3) dGNil))) (dSeq (dIfS (dOr (dNot (dTr (dIsinst "tuple" (dVar 3)))) (dOr (dTst (dOp (pEq true) (dCB pLen (dCons (dVar 3) dNil)) (dC (.int 3)))) (dNot (dTr (dIsinst "list" (dOp pIx (dVar 3) (dC (.int 2)))))))) (dRet (dC (.bl false))) dNext)
  (dSeq (dIfS (dOr (dTst (dOp (pEq true) (dOp pIx (dVar 3) (dC (.int 0))) (dOp pPlus (dCB pLen (dCons (dOp pIx (dOp pIx (dVar 1) (dVar 2)) (dC (.int 3))) dNil)) (dC (.int 1))))) (dTst (dOp (pEq true) (dOp pIx (dVar 3) (dC (.int 1))) (dOp pPlus (dCB pLen (dCons (dOp pIx (dOp pIx (dVar 1) (dVar 2)) (dC (.int 2))) dNil)) (dC (.int 2)))))) (dRet (dC (.bl false))) dNext)
  (dIfS (dNot (dTr (dCal S_q0 (dCons (dOp pIx (dVar 3) (dC (.int 2))) (dCons (dVar 1) (dCons (dVar 2) dNil)))))) (dRet (dC (.bl false))) dNext))))
  (dRet (dOp (pEq false) (dCal S_q26 (dCons (dVar 0) dNil)) (dVar 0)))))
noncomputable def goD(x:Fu×Nat):D:=.tup [nD (x.1.rows.length + 1),nD (x.1.vars.length + 2),.ref x.2]
noncomputable def S_q9:DSp:=fun ds h Q=>∃ (k:Nat) (P:List Fu) (js:List Nat),ds=[.ref k,.lst (P.map fuD)]∧js.length=P.length∧h[k]?=some (.lst ((P.zip js).map goD))∧(∀ x ∈ P.zip js,h[x.2]?=some (.lst ((fnE P x.1).map eD)))∧PrG P∧many (chartQ P P) ≤ 24∧Q (.bl true) h
theorem imp_q9:∀ ds h Q,S_q9 ds h Q→runD 4 b_q9 ds h Q:=by
 rintro ds h Q ⟨k,P,js,rfl,jl,hk,hj,ok,m24,q⟩
 have zl:(P.zip js).length=P.length:=by rw [List.length_zip,jl];omega
 have lk:lsOf h (.ref k)=some ((P.zip js).map goD):=lsOf_ref hk
 have s6:=ok.six
 delta runD b_q9;simp only [List.map_cons,List.map_nil,List.cons_append,List.nil_append,List.length_cons,List.length_nil,List.replicate,Nat.reduceSub,Nat.reduceAdd,Nat.zero_add,Nat.sub_self]
 (try dsimp only);refine seq_intro fun N hN=>?_
 have ee:((P.length:Int) == (P.length:Int))=true:=beq_self_eq_true _
 simp only [kindD_ref hk,len_ls lk,List.length_map,zl,ee,VV]
 subst hN
 (try dsimp only);refine seq_intro fun N hN=>?_
 obtain ⟨w,s1,s2⟩:=src_pre lk
 simp only [s1 _ (Pre.refl _),VV]
 rw [enumD_map]
 refine forL_map (fun p δ h'=>h'=h∧∃ (x2 x3:Option D),δ=[some (.ref k),some (.lst (P.map fuD)),x2,x3]) ⟨rfl,none,none,rfl⟩ ?_ ?_ ?_
 ·rintro p δ h' ⟨rfl,_⟩
  exact s2 _ _ (Pre.refl _)
 ·rintro p ⟨⟨F,j⟩,i⟩ r δ h' N1 e ⟨rfl,x2,x3,rfl⟩ hN1
  obtain ⟨hi,hx⟩:=zip_at e
  obtain ⟨hF,hjj⟩:=List.getElem?_zip_eq_some.mp hx
  have hF:P[p.length]?=some F:=hF
  have hE:=hj (F,j) (List.mem_of_getElem? hx)
  have ixP:atI (P.map fuD) (0 + (i:Int))=some (.tup [.str F.name,nD F.given,.tup (F.vars.map .str),.tup (F.rows.map roD)]):=by rw [Int.zero_add,hi,atN,List.getElem?_map,hF];rfl
  have e3:(((3:Nat):Int) == 3)=true:=rfl
  have er:(((F.rows.length + 1:Nat):Int) == (F.rows.length:Int) + 1)=true:=by simp
  have ev:(((F.vars.length + 2:Nat):Int) == (F.vars.length:Int) + 2)=true:=by simp
  simp only [goD,VV]
  refine ⟨trivial,?_⟩
  (try dsimp only);refine seq_intro fun N hN=>?_
  simp only [kindD_ref hE,e3,VV]
  subst hN
  (try dsimp only);refine seq_intro fun N hN=>?_
  simp only [ixP,List.length_map,er,ev,VV]
  subst hN
  simp only [VV]
  refine ⟨.ref j,P,i,F,by rw [Int.zero_add],ok.toPrOk,by rw [hi];exact hF,lsOf_ref hE,?_⟩
  simp only [VV]
  exact hN1 _ _ ⟨rfl,_,_,rfl⟩
 ·rintro δ h' ⟨rfl,x2,x3,rfl⟩
  subst hN
  simp only [VV0]
  have chd:ChD h' (.ref k) (chartQ P P):=by
   refine ⟨_,lk,by unfold chartQ;simp [zl],fun i F' hF'=>?_⟩
   unfold chartQ at hF'
   rw [List.getElem?_map] at hF'
   cases hF:P[i]? with
   |none=>rw [hF] at hF';cases hF'
   |some F =>
    rw [hF] at hF'
    cases hF'
    have il:=(List.getElem?_eq_some_iff.mp hF).1
    obtain ⟨j,hjj⟩:∃ j,js[i]?=some j:=⟨_,List.getElem?_eq_getElem (by first | decide | omega)⟩
    have hx:(P.zip js)[i]?=some (F,j):=List.getElem?_zip_eq_some.mpr ⟨hF,hjj⟩
    exact ⟨.ref j,by rw [List.getElem?_map,hx];rfl,lsOf_ref (hj _ (List.mem_of_getElem? hx))⟩
  refine ⟨.ref k,chartQ P P,rfl,chd,chart_wf ok,m24,?_⟩
  refine pEq_same rfl (pd_c _ _) (Pd.ref hk (Pds.get (by unfold chartQ;simp [zl]) fun i d p hd hp=>?_)) (by decide) q
  unfold chartQ at hp
  rw [List.map_map,List.getElem?_map] at hp
  rw [List.getElem?_map] at hd
  cases hx:(P.zip js)[i]? with
  |none=>rw [hx] at hd;cases hd
  |some x =>
   obtain ⟨F,j⟩:=x
   obtain ⟨hF,hjj⟩:=List.getElem?_zip_eq_some.mp hx
   have hF:P[i]?=some F:=hF
   rw [hx] at hd
   rw [hF] at hp
   cases hd;cases hp
   exact .tup (.cons (.int _) (.cons (.int _) (.cons (Pd.ref (hj _ (List.mem_of_getElem? hx)) (Pds.map (pd_e _))) .nil)))
theorem ok_q9{f:Addr}{fd:FuncData}(F:Fun K "_law_good" "_law_good" s_q9 f fd)(T:Txt P w K mg)(C_q0:Cal P w K mg base 3 "_law_are_edges" ["_law_edges","_law_program_here","_law_f"] (spD K 3 S_q0))(C_q26:Cal P w K mg base 5 "checked" ["chart"] (spD K 1 S_q26)):FnOk P w K mg base CX0 6 f fd ["_law_chart","_law_program_here"] (spD K 2 S_q9) :=
 fn_ok (k:=5) (b:=b_q9) F sc_q9 (fun cdv A outer s H E hr=>by
  refine ss_cons ?_ ?_
  ·refine s_if ?_ ?_ ?_
   ·exact st_w (sw_or (st_not (st_truth (se_isinst (by decide) rfl T.b_isinstance (sv 0) (pe_bltn (v:=.ty "list") rfl T.b_list PyProof.Rows.boot_list rfl)))) (sw_or1 (st_cmp (ok_ne hr.units) (se_callB ok_len rfl T.b_len PySem.boot_len (sa_cons (sv 0) sa_nil)) (se_callB ok_len rfl T.b_len PySem.boot_len (sa_cons (sv 1) sa_nil)) (nomark _))))
   ·refine ss_one ?_
    refine s_ret ?_
    exact se_bl
   exact ss_nil
  refine ss_cons ?_ ?_
  ·refine s_for ?_ ?_ ?_ ?_ ?_
   ·exact PassesOwn.never
   ·exact rfl
   ·exact si_enum rfl T.b_enumerate (sa_cons (sv 0) sa_nil)
   ·exact sg_tup rfl (sgs_cons (sg_name (i:=2) sc_q9.nd rfl (Or.inl rfl)) (sgs_cons (sg_name (i:=3) sc_q9.nd rfl (Or.inl rfl)) sgs_nil))
   refine ss_cons ?_ ?_
   ·refine s_if ?_ ?_ ?_
    ·exact st_w (sw_or (st_not (st_truth (se_isinst (by decide) rfl T.b_isinstance (sv 3) (pe_bltn (v:=.ty "tuple") rfl T.b_tuple PyProof.Rows.boot_tuple rfl)))) (sw_or (st_cmp (ok_ne hr.units) (se_callB ok_len rfl T.b_len PySem.boot_len (sa_cons (sv 3) sa_nil)) se_int (nomark _)) (sw_or1 (st_not (st_truth (se_isinst (by decide) rfl T.b_isinstance (se_ix ok_ix (sv 3) se_int (fun _ _=>rfl)) (pe_bltn (v:=.ty "list") rfl T.b_list PyProof.Rows.boot_list rfl)))))))
    ·refine ss_one ?_
     refine s_ret ?_
     exact se_bl
    exact ss_nil
   refine ss_cons ?_ ?_
   ·refine s_if ?_ ?_ ?_
    ·exact st_w (sw_or (st_cmp (ok_ne hr.units) (se_ix ok_ix (sv 3) se_int (fun _ _=>rfl)) (se_op ok_plus (se_callB ok_len rfl T.b_len PySem.boot_len (sa_cons (se_ix ok_ix (se_ix ok_ix (sv 1) (sv 2) (fun _ _=>rfl)) se_int (fun _ _=>rfl)) sa_nil)) se_int) (nomark _)) (sw_or1 (st_cmp (ok_ne hr.units) (se_ix ok_ix (sv 3) se_int (fun _ _=>rfl)) (se_op ok_plus (se_callB ok_len rfl T.b_len PySem.boot_len (sa_cons (se_ix ok_ix (se_ix ok_ix (sv 1) (sv 2) (fun _ _=>rfl)) se_int (fun _ _=>rfl)) sa_nil)) se_int) (nomark _))))
    ·refine ss_one ?_
     refine s_ret ?_
     exact se_bl
    exact ss_nil
   refine ss_one ?_
   refine s_if ?_ ?_ ?_
   ·exact st_not (st_truth (se_cal C_q0 (hr.mono (by decide)) rfl (sa_cons (se_ix ok_ix (sv 3) se_int (fun _ _=>rfl)) (sa_cons (sv 1) (sa_cons (sv 2) sa_nil)))))
   ·refine ss_one ?_
    refine s_ret ?_
    exact se_bl
   exact ss_nil
  refine ss_one ?_
  refine s_ret ?_
  exact se_cmp (ok_eq hr.units) (se_cal C_q26 (hr.mono (by decide)) rfl (sa_cons (sv 0) sa_nil)) (sv 0) (nomark _)) imp_q9
noncomputable def b_q18:DS:=(dSeq (dAsg (dC (.str "abcdefghijklmnopqrstuvwxyz")) (dName 3))
  (dSeq (dAsg (dOp pPlus (dC (.int 1)) (dOp pMod (dVar 0) (dC (.int 8)))) (dName 4))
  (dSeq (dAsg (dOp pMod (dOp pDiv (dVar 0) (dC (.int 8))) (dVar 4)) (dName 5))
  (dSeq (dAsg (dTk dNil) (dName 6))
  (dSeq (dFor (dIRange (dCons (dVar 1) dNil)) (dName 7) (dSeq (dAsg (dC (.str "")) (dName 8))
  (dSeq (dIfS (dTr (dVar 2)) (dSeq (dAsg (dOp pPlus (dC (.int 1)) (dOp pMod (dVar 0) (dC (.int 8)))) (dName 4))
  (dAsg (dOp pDiv (dVar 0) (dC (.int 8))) (dName 0))) dNext)
  (dSeq (dFor (dIRange (dCons (dVar 4) dNil)) (dName 9) (dSeq (dAsg (dVar 0) (dName 10))
  (dSeq (dIfS (dTr (dVar 2)) (dAsg (dOp pDiv (dVar 0) (dC (.int 26))) (dName 0)) (dAsg (dOp pPlus (dOp pPlus (dOp pDiv (dVar 0) (dOp pPlus (dC (.int 64)) (dOp pMulI (dOp pMulI (dC (.int 27)) (dVar 9)) (dVar 9)))) (dOp pMulI (dC (.int 5)) (dVar 9))) (dOp pMulI (dVar 7) (dCB pInt (dCons (dOp (pEq false) (dVar 9) (dVar 5)) dNil)))) (dName 10)))
  (dAsg (dOp pCatS (dVar 8) (dOp pIx (dVar 3) (dOp pMod (dVar 10) (dC (.int 26))))) (dName 8)))))
  (dDrop (dAppend (dVar 6) (dCons (dVar 8) dNil)))))))
  (dRet (dVar 6)))))))
noncomputable def gdL(l:List Nat):Prop:=1 ≤ l.length∧l.length ≤ 8∧∀ i ∈ l,i < 26
noncomputable def lD(l:List Nat):D:=.str (lw l)
noncomputable def S_q18:DSp:=fun ds h Q=>∃ (c:Int) (m:Nat) (b:Bool),ds=[.int c,.int m,.bl b]∧m ≤ 10∧∀ ss:List (List Nat),ss.length=m→(∀ l ∈ ss,gdL l)→Q (.lst (ss.map lD)) h
theorem imp_q18:∀ ds h Q,S_q18 ds h Q→runD 11 b_q18 ds h (Dr h Q):=by
 rintro ds h Q ⟨c,m,b,rfl,hm,q⟩
 delta runD b_q18;simp only [List.map_cons,List.map_nil,List.cons_append,List.nil_append,List.length_cons,List.length_nil,List.replicate,Nat.reduceSub,Nat.reduceAdd,Nat.zero_add,Nat.sub_self]
 (try dsimp only);refine seq_intro fun N hN=>?_
 simp only [VV]
 subst hN
 (try dsimp only);refine seq_intro fun N hN=>?_
 simp only [VV]
 refine ⟨by decide,?_⟩
 obtain ⟨s0,hs0,es0⟩:=mdN c 8 (by decide)
 have es0:1 + c % 8=((1 + s0:Nat):Int):=by rw [Int.natCast_add];exact congrArg (1 + ·) es0
 rw [es0]
 have s8:1 + s0 ≤ 8:=by first | decide | omega
 have s1:1 ≤ 1 + s0:=by first | decide | omega
 generalize 1 + s0=sz at s8 s1
 subst hN
 (try dsimp only);refine seq_intro fun N hN=>?_
 simp only [VV]
 refine ⟨⟨by decide,by decide⟩,by first | decide | omega,?_⟩
 generalize c / 8 % (sz:Int)=at_
 subst hN
 (try dsimp only);refine seq_intro fun N hN=>?_
 simp only [VV]
 subst hN
 (try dsimp only);refine seq_intro fun N hN=>?_
 simp only [VV]
 refine ⟨⟨by first | decide | omega,by first | decide | omega⟩,?_⟩
 rw [rangeD_map,Int.toNat_natCast]
 refine forL_map (fun p δ h'=>∃ (c:Int) (sz:Nat) (ss:List (List Nat)) (x7 x8 x9 x10:Option D),δ=[some (.int c),some (.int m),some (.bl b),some (.str abc),some (.int sz),some (.int at_),some (.ref h.length),x7,x8,x9,x10]∧h'=h ++ [.lst (ss.map lD)]∧1 ≤ sz∧sz ≤ 8∧ss.length=p.length∧∀ l ∈ ss,gdL l) ⟨c,sz,[],none,none,none,none,rfl,rfl,s1,s8,rfl,fun l hl=>nomatch hl⟩ (fun _ _ _ _=>Src.ok_nil) ?_ ?_
 ·rintro p j r δ h' N1 e ⟨c,sz,ss,x7,x8,x9,x10,rfl,rfl,s1,s8,sl,sg⟩ hN1
  obtain ⟨jp,jm⟩:=range_split e
  simp only [VV]
  (try dsimp only);refine seq_intro fun N hN=>?_
  simp only [VV]
  rw [lw_nil]
  subst hN
  (try dsimp only);refine seq_intro fun N hN=>?_
  have rest:∀ (c:Int) (sz:Nat) (x9 x10:Option D),1 ≤ sz→sz ≤ 8→N [some (.int c),some (.int m),some (.bl b),some (.str abc),some (.int sz),some (.int at_),some (.ref h.length),some (.int (0 + (j:Int))),some (.str (lw [])),x9,x10] (h ++ [.lst (ss.map lD)]):=by
   intro c sz x9 x10 s1 s8
   subst hN
   (try dsimp only);refine seq_intro fun N hN=>?_
   simp only [VV]
   refine ⟨⟨by first | decide | omega,by first | decide | omega⟩,?_⟩
   rw [rangeD_map,Int.toNat_natCast]
   refine forL_map (fun p' δ h'=>h'=h ++ [.lst (ss.map lD)]∧∃ (c:Int) (l:List Nat) (x9 x10:Option D),δ=[some (.int c),some (.int m),some (.bl b),some (.str abc),some (.int sz),some (.int at_),some (.ref h.length),some (.int (0 + (j:Int))),some (.str (lw l)),x9,x10]∧l.length=p'.length∧∀ i ∈ l,i < 26) ⟨rfl,c,[],x9,x10,rfl,rfl,fun i hi=>nomatch hi⟩ (fun _ _ _ _=>Src.ok_nil) ?_ ?_
   ·rintro p' k r' δ h' N2 e' ⟨rfl,c,l,x9,x10,rfl,ll,lg⟩ hN2
    obtain ⟨kp,km⟩:=range_split e'
    simp only [VV]
    (try dsimp only);refine seq_intro fun N hN=>?_
    simp only [VV]
    subst hN
    (try dsimp only);refine seq_intro fun N hN=>?_
    have fin:∀ (c pl:Int),N [some (.int c),some (.int m),some (.bl b),some (.str abc),some (.int sz),some (.int at_),some (.ref h.length),some (.int (0 + (j:Int))),some (.str (lw l)),some (.int (0 + (k:Int))),some (.int pl)] (h ++ [.lst (ss.map lD)]):=by
     intro c pl
     subst hN
     obtain ⟨t,ht,et⟩:=mdN pl 26 (by decide)
     have et:pl % 26=(t:Int):=et
     have ia:∀ hx,ixD hx (.str abc) (.int (t:Int))=some (.str (lw [t])):=fun hx=>abc_at ht
     simp only [VV]
     refine ⟨by decide,?_⟩
     rw [et,ia]
     dsimp only
     rw [lw_cat]
     refine ⟨by rw [lw_len,lw_len,List.length_singleton];omega,hN2 _ _ ⟨rfl,c,l ++ [t],_,_,rfl,by simp [ll],fun i hi=>?_⟩⟩
     rcases List.mem_append.mp hi with z | z
     ·exact lg i z
     ·rw [List.mem_singleton.mp z];exact ht
    cases b with
    |true =>
     simp only [VV]
     exact ⟨⟨by decide,by decide⟩,fin _ _⟩
    |false =>
     simp only [VV]
     simp only [Int.zero_add] at fin ⊢
     have k8:k < 8:=by first | decide | omega
     have kk:27 * (k:Int) * (k:Int)=((27 * k * k:Nat):Int):=by rw [Int.natCast_mul,Int.natCast_mul];rfl
     have kb:27 * k * k ≤ 27 * 8 * 8:=Nat.mul_le_mul (Nat.mul_le_mul_left _ (by first | decide | omega)) (by first | decide | omega)
     have ki:(if ((k:Int) == at_)=true then (1:Int) else 0)=1∨(if ((k:Int) == at_)=true then (1:Int) else 0)=0:=by split;exact .inl rfl;exact .inr rfl
     refine ⟨mulS (by first | decide | omega),mulS (by first | decide | omega),⟨by rw [kk];omega,by rw [kk];omega⟩,mulS (by first | decide | omega),?_,fin _ _⟩
     rcases ki with z | z <;> rw [z]
     ·exact mulS (by first | decide | omega)
     ·exact mulS (by first | decide | omega)
   ·rintro δ h' ⟨rfl,c,l,x9,x10,rfl,ll,lg⟩
    rw [List.length_range] at ll
    subst hN
    simp only [get_new,set_new,List.length_map,VV]
    refine ⟨by first | decide | omega,hN1 _ _ ⟨c,sz,ss ++ [l],_,_,_,_,rfl,by rw [List.map_append];rfl,s1,s8,by simp [sl],fun l' hl'=>?_⟩⟩
    rcases List.mem_append.mp hl' with z | z
    ·exact sg l' z
    ·rw [List.mem_singleton.mp z];exact ⟨by first | decide | omega,by first | decide | omega,lg⟩
  cases b with
  |true =>
   simp only [VV]
   (try dsimp only);refine seq_intro fun N2 hN2=>?_
   simp only [VV]
   refine ⟨by decide,?_⟩
   obtain ⟨s2,hs2,es2⟩:=mdN c 8 (by decide)
   have es2:1 + c % 8=((1 + s2:Nat):Int):=by rw [Int.natCast_add];exact congrArg (1 + ·) es2
   rw [es2]
   subst hN2
   simp only [VV]
   exact ⟨⟨by decide,by decide⟩,rest _ _ _ _ (by first | decide | omega) (by first | decide | omega)⟩
  |false =>
   simp only [VV]
   exact rest _ _ _ _ s1 s8
 ·rintro δ h' ⟨c,sz,ss,x7,x8,x9,x10,rfl,rfl,s1,s8,sl,sg⟩
  rw [List.length_range] at sl
  subst hN
  simp only [VV]
  have:=Dr.dropL (h:=h) (Q:=Q) (xs:=ss.map lD) (g1:=[]) (g2:=[]) (k:=h.length) (nrDs_map (fun _=>rfl) ss) (by simp) (q ss sl sg)
  simpa using this
theorem ok_q18{f:Addr}{fd:FuncData}(F:Fun K "_law_spelt" "_law_spelt" s_q18 f fd)(T:Txt P w K mg):FnOk P w K mg base CX0 1 f fd ["_law_cell","_law_many","_law_free"] (spD K 3 S_q18) :=
 fn_okD (k:=0) (b:=b_q18) F sc_q18 (fun cdv A outer s H E hr=>by
  refine ss_cons ?_ ?_
  ·refine s_set (i:=3) ?_ ?_ ?_ ?_
   ·exact sc_q18.nd
   ·exact rfl
   ·exact Or.inl rfl
   exact se_str
  refine ss_cons ?_ ?_
  ·refine s_set (i:=4) ?_ ?_ ?_ ?_
   ·exact sc_q18.nd
   ·exact rfl
   ·exact Or.inl rfl
   exact se_op ok_plus se_int (se_op ok_mod (sv 0) se_int)
  refine ss_cons ?_ ?_
  ·refine s_set (i:=5) ?_ ?_ ?_ ?_
   ·exact sc_q18.nd
   ·exact rfl
   ·exact Or.inl rfl
   exact se_op ok_mod (se_op ok_div (sv 0) se_int) (sv 4)
  refine ss_cons ?_ ?_
  ·refine s_set (i:=6) ?_ ?_ ?_ ?_
   ·exact sc_q18.nd
   ·exact rfl
   ·exact Or.inl rfl
   exact se_t (sn_lst sa_nil)
  refine ss_cons ?_ ?_
  ·refine s_for ?_ ?_ ?_ ?_ ?_
   ·exact PassesOwn.never
   ·exact rfl
   ·exact si_range1 rfl T.b_range (sa_cons (sv 1) sa_nil)
   ·exact sg_name (i:=7) sc_q18.nd rfl (Or.inl rfl)
   refine ss_cons ?_ ?_
   ·refine s_set (i:=8) ?_ ?_ ?_ ?_
    ·exact sc_q18.nd
    ·exact rfl
    ·exact Or.inl rfl
    exact se_str
   refine ss_cons ?_ ?_
   ·refine s_if ?_ ?_ ?_
    ·exact st_truth (sv 2)
    ·refine ss_cons ?_ ?_
     ·refine s_set (i:=4) ?_ ?_ ?_ ?_
      ·exact sc_q18.nd
      ·exact rfl
      ·exact Or.inl rfl
      exact se_op ok_plus se_int (se_op ok_mod (sv 0) se_int)
     refine ss_one ?_
     refine s_set (i:=0) ?_ ?_ ?_ ?_
     ·exact sc_q18.nd
     ·exact rfl
     ·exact Or.inl rfl
     exact se_op ok_div (sv 0) se_int
    exact ss_nil
   refine ss_cons ?_ ?_
   ·refine s_for ?_ ?_ ?_ ?_ ?_
    ·exact PassesOwn.never
    ·exact rfl
    ·exact si_range1 rfl T.b_range (sa_cons (sv 4) sa_nil)
    ·exact sg_name (i:=9) sc_q18.nd rfl (Or.inl rfl)
    refine ss_cons ?_ ?_
    ·refine s_set (i:=10) ?_ ?_ ?_ ?_
     ·exact sc_q18.nd
     ·exact rfl
     ·exact Or.inl rfl
     exact sv 0
    refine ss_cons ?_ ?_
    ·refine s_if ?_ ?_ ?_
     ·exact st_truth (sv 2)
     ·refine ss_one ?_
      refine s_set (i:=0) ?_ ?_ ?_ ?_
      ·exact sc_q18.nd
      ·exact rfl
      ·exact Or.inl rfl
      exact se_op ok_div (sv 0) se_int
     refine ss_one ?_
     refine s_set (i:=10) ?_ ?_ ?_ ?_
     ·exact sc_q18.nd
     ·exact rfl
     ·exact Or.inl rfl
     exact se_op ok_plus (se_op ok_plus (se_op ok_div (sv 0) (se_op ok_plus se_int (se_op ok_timesI (se_op ok_timesI se_int (sv 9)) (sv 9)))) (se_op ok_timesI se_int (sv 9))) (se_op ok_timesI (sv 7) (se_callTy ok_int rfl T.b_int PyProof.Rows.boot_int (sa_cons (se_cmp (ok_eq hr.units) (sv 9) (sv 5) (nomark _)) sa_nil)))
    refine ss_one ?_
    refine s_set (i:=8) ?_ ?_ ?_ ?_
    ·exact sc_q18.nd
    ·exact rfl
    ·exact Or.inl rfl
    exact se_op ok_catS (sv 8) (se_ix ok_ix (sv 3) (se_op ok_mod (sv 10) se_int) (fun _ _=>rfl))
   refine ss_one ?_
   refine s_expr ?_
   exact se_append (sv 6) (sa_cons (sv 8) sa_nil)
  refine ss_one ?_
  refine s_ret ?_
  exact sv 6) imp_q18
noncomputable def b_q14:DS:=(dSeq (dAsg (dC (.str "abcdefghijklmnopqrstuvwxyz")) (dName 3))
  (dSeq (dAsg (dV (dStrs ["function","call","dye","wash","if","to","return","back","here"])) (dName 4))
  (dSeq (dAsg (dTk dNil) (dName 5))
  (dSeq (dFor (dISeq (dCal S_q18 (dCons (dVar 0) (dCons (dVar 1) (dCons (dVar 2) dNil))))) (dName 6) (dSeq (dWhile (dTst (dOp (pIn false) (dVar 6) (dOp pPlus (dVar 5) (dVar 4)))) (dSeq (dAsg (dIndexS (dVar 3) (dCons (dOp pIx (dVar 6) (dOp pSub (dCB pLen (dCons (dVar 6) dNil)) (dC (.int 1)))) dNil)) (dName 7))
  (dAsg (dOp pCatS (dSlS (dVar 6) dNoPart (dPart (dOp pSub (dCB pLen (dCons (dVar 6) dNil)) (dC (.int 1))))) (dOp pIx (dVar 3) (dOp pMod (dOp pPlus (dVar 7) (dC (.int 1))) (dC (.int 26))))) (dName 6))))
  (dDrop (dAppend (dVar 5) (dCons (dVar 6) dNil)))))
  (dRet (dVar 5))))))
noncomputable def tkn:List Str:= ["function","call","dye","wash","if","to","return","back","here"]
noncomputable def S_q14:DSp:=fun ds h Q=>∃ (c:Int) (m:Nat) (b:Bool),ds=[.int c,.int m,.bl b]∧m ≤ 10∧∀ ss:List Str,ss.length=m→(∀ s ∈ ss,PyData.strOk s=true)→Q (.lst (ss.map .str)) h
theorem imp_q14:∀ ds h Q,S_q14 ds h Q→runD 8 b_q14 ds h (Dr h Q):=by
 rintro ds h Q ⟨c,m,b,rfl,hm,q⟩
 delta runD b_q14;simp only [List.map_cons,List.map_nil,List.cons_append,List.nil_append,List.length_cons,List.length_nil,List.replicate,Nat.reduceSub,Nat.reduceAdd,Nat.zero_add,Nat.sub_self]
 (try dsimp only);refine seq_intro fun N hN=>?_
 simp only [VV]
 subst hN
 (try dsimp only);refine seq_intro fun N hN=>?_
 simp only [VV]
 subst hN
 (try dsimp only);refine seq_intro fun N hN=>?_
 simp only [VV]
 subst hN
 (try dsimp only);refine seq_intro fun N hN=>?_
 simp only [VV]
 refine ⟨c,m,b,rfl,hm,fun ss sl sg=>?_⟩
 simp only [VV]
 refine forL_map (fun p δ h'=>∃ (ns:List Str) (x6 x7:Option D),δ=[some (.int c),some (.int m),some (.bl b),some (.str abc),some (.lst (tkn.map .str)),some (.ref h.length),x6,x7]∧h'=h ++ [.lst (ns.map .str)]∧ns.length=p.length∧∀ s ∈ ns,PyData.strOk s=true) ⟨[],none,none,rfl,rfl,rfl,fun s hs=>nomatch hs⟩ (fun _ _ _ _=>Src.ok_nil) ?_ ?_
 ·rintro p l0 r δ h' N1 e ⟨ns,x6,x7,rfl,rfl,nl,nok⟩ hN1
  obtain ⟨g1,g2,g3⟩:=sg l0 (by rw [e];simp)
  have pl:p.length < ss.length:=by rw [e];simp
  simp only [VV]
  (try dsimp only);refine seq_intro fun N hN=>?_
  obtain ⟨base,c0,rfl⟩:∃ base c0,l0=base ++ [c0]:=⟨l0.dropLast,l0.getLast (by intro z;rw [z] at g1;cases g1),(List.dropLast_concat_getLast _).symm⟩
  have bl:base.length ≤ 7:=by rw [List.length_append,List.length_singleton] at g2;omega
  have c26:c0 < 26:=g3 c0 (by simp)
  obtain ⟨t,ht,nt⟩:=hole (ns ++ tkn) 26 (fun i=>lw (base ++ [(c0 + i) % 26])) (by rw [List.length_append,show tkn.length=9 from rfl];omega) (fun i j hi hj ee=>by
   have:=List.append_cancel_left (lw_inj ee)
   have:(c0 + i) % 26=(c0 + j) % 26:=by simpa using this
   omega)
  refine while_g (fun m_ δ h'=>h'=h ++ [.lst (ns.map .str)]∧∃ (c1:Nat) (x7:Option D),δ=[some (.int c),some (.int m),some (.bl b),some (.str abc),some (.lst (tkn.map .str)),some (.ref h.length),some (.str (lw (base ++ [c1]))),x7]∧c1 < 26∧lw (base ++ [(c1 + m_) % 26]) ∉ ns ++ tkn) (m:=t) ⟨rfl,c0,x7,rfl,c26,nt⟩ ?_
  rintro m_ δ h' N2 ⟨rfl,c1,x7,rfl,c1l,nt⟩ hN2
  have lp:lsP (h ++ [O.lst (ns.map D.str)]) (.ref h.length)=some (ns.map D.str):=ls_new _ _
  simp only [lp,VV]
  rw [← List.map_append,inF_str,flat_strs]
  refine ⟨by rw [List.length_map,List.length_map,show tkn.length=9 from rfl];omega,rfl,?_⟩
  cases z:(ns ++ tkn).contains (lw (base ++ [c1])) with
  |false =>
   rw [if_neg Bool.false_ne_true]
   subst hN
   simp only [get_new,set_new,List.length_map,VV]
   refine ⟨by first | decide | omega,hN1 _ _ ⟨ns ++ [lw (base ++ [c1])],_,_,rfl,by rw [List.map_append];rfl,by simp [nl],fun s hs=>?_⟩⟩
   rcases List.mem_append.mp hs with z | z
   ·exact nok s z
   ·rw [List.mem_singleton.mp z]
    refine lw_ok fun i hi=>?_
    rcases List.mem_append.mp hi with y | y
    ·exact g3 i (List.mem_append_left _ y)
    ·rw [List.mem_singleton.mp y];exact c1l
  |true =>
   rw [if_pos rfl]
   have m0:m_ ≠ 0:=fun q=>by
    subst q
    rw [Nat.add_zero,Nat.mod_eq_of_lt c1l] at nt
    exact nt (by simpa using z)
   have ln:∀ hx,lenD hx (.str (lw (base ++ [c1])))=some (base.length + 1):=fun hx=>by
    show (if (lw (base ++ [c1])).length ≤ 16777216 then some (lw (base ++ [c1])).length else none)=_
    rw [lw_len,List.length_append,if_pos (by rw [List.length_singleton];omega)];rfl
   have e1:(((base.length + 1:Nat):Int) - 1)=(base.length:Int):=by first | decide | omega
   have ia:∀ hx,ixD hx (.str (lw (base ++ [c1]))) (.int (base.length:Int))=some (.str (lw [c1])):=fun hx=>lw_at base c1 (by first | decide | omega)
   have ib:∀ hx,ixD hx (.str abc) (.int (((c1 + 1) % 26:Nat):Int))=some (.str (lw [(c1 + 1) % 26])):=fun hx=>abc_at (Nat.mod_lt _ (by decide))
   have e2:((c1:Int) + 1) % 26=(((c1 + 1) % 26:Nat):Int):=by first | decide | omega
   refine seq_intro fun N3 hN3=>?_
   simp only [ln,e1,ia,VV]
   refine ⟨c1,[],abc_ix c1 c1l,?_⟩
   subst hN3
   simp only [ln,e1,lw_sl,e2,ib,lw_cat,VV]
   refine ⟨by rw [lw_len];omega,by decide,by rw [lw_len,lw_len,List.length_singleton];omega,hN2 (m_ - 1) _ _ (by first | decide | omega) ⟨rfl,_,_,rfl,Nat.mod_lt _ (by decide),?_⟩⟩
   rw [show ((c1 + 1) % 26 + (m_ - 1)) % 26=(c1 + m_) % 26 by first | decide | omega]
   exact nt
 ·rintro δ h' ⟨ns,x6,x7,rfl,rfl,nl,nok⟩
  subst hN
  simp only [VV]
  have:=Dr.dropL (h:=h) (Q:=Q) (xs:=ns.map D.str) (g1:=[]) (g2:=[]) (k:=h.length) (nrDs_map (fun _=>rfl) ns) (by simp) (q ns (by first | decide | omega) nok)
  simpa using this
theorem ok_q14{f:Addr}{fd:FuncData}(F:Fun K "_law_names" "_law_names" s_q14 f fd)(T:Txt P w K mg)(C_q18:Cal P w K mg base 1 "_law_spelt" ["_law_cell","_law_many","_law_free"] (spD K 3 S_q18)):FnOk P w K mg base CX0 2 f fd ["_law_cell","_law_many","_law_free"] (spD K 3 S_q14) :=
 fn_okD (k:=1) (b:=b_q14) F sc_q14 (fun cdv A outer s H E hr=>by
  refine ss_cons ?_ ?_
  ·refine s_set (i:=3) ?_ ?_ ?_ ?_
   ·exact sc_q14.nd
   ·exact rfl
   ·exact Or.inl rfl
   exact se_str
  refine ss_cons ?_ ?_
  ·refine s_set (i:=4) ?_ ?_ ?_ ?_
   ·exact sc_q14.nd
   ·exact rfl
   ·exact Or.inl rfl
   refine se_v ?_
   exact sn_strs ["function","call","dye","wash","if","to","return","back","here"]
  refine ss_cons ?_ ?_
  ·refine s_set (i:=5) ?_ ?_ ?_ ?_
   ·exact sc_q14.nd
   ·exact rfl
   ·exact Or.inl rfl
   exact se_t (sn_lst sa_nil)
  refine ss_cons ?_ ?_
  ·refine s_for ?_ ?_ ?_ ?_ ?_
   ·exact PassesOwn.never
   ·exact rfl
   ·exact si_seq (se_cal C_q18 (hr.mono (by decide)) rfl (sa_cons (sv 0) (sa_cons (sv 1) (sa_cons (sv 2) sa_nil))))
   ·exact sg_name (i:=6) sc_q14.nd rfl (Or.inl rfl)
   refine ss_cons ?_ ?_
   ·refine s_while ?_ ?_ ?_
    ·exact PassesOwn.never
    ·exact st_cmp ok_in (sv 6) (se_op ok_plus (sv 5) (sv 4)) rfl
    refine ss_cons ?_ ?_
    ·refine s_set (i:=7) ?_ ?_ ?_ ?_
     ·exact sc_q14.nd
     ·exact rfl
     ·exact Or.inl rfl
     exact se_indexS (sv 3) (sa_cons (se_ix ok_ix (sv 6) (se_op ok_sub (se_callB ok_len rfl T.b_len PySem.boot_len (sa_cons (sv 6) sa_nil)) se_int) (fun _ _=>rfl)) sa_nil)
    refine ss_one ?_
    refine s_set (i:=6) ?_ ?_ ?_ ?_
    ·exact sc_q14.nd
    ·exact rfl
    ·exact Or.inl rfl
    exact se_op ok_catS (se_slS (sv 6) so_none (so_some (se_op ok_sub (se_callB ok_len rfl T.b_len PySem.boot_len (sa_cons (sv 6) sa_nil)) se_int))) (se_ix ok_ix (sv 3) (se_op ok_mod (se_op ok_plus (sv 7) se_int) se_int) (fun _ _=>rfl))
   refine ss_one ?_
   refine s_expr ?_
   exact se_append (sv 5) (sa_cons (sv 6) sa_nil)
  refine ss_one ?_
  refine s_ret ?_
  exact sv 5) imp_q14
noncomputable def b_q31:DS:=(dSeq (dAsg (dOp (pEq false) (dOp pMod (dCal S_q4 (dCons (dVar 0) (dCons (dC (.int 7)) dNil))) (dC (.int 2))) (dC (.int 1))) (dName 1))
  (dSeq (dAsg (dCal S_q14 (dCons (dCal S_q4 (dCons (dVar 0) (dCons (dC (.int 6)) dNil))) (dCons (dC (.int 6)) (dCons (dVar 1) dNil)))) (dName 2))
  (dSeq (dAsg (dCal S_q14 (dCons (dOp pDiv (dCal S_q4 (dCons (dVar 0) (dCons (dC (.int 7)) dNil))) (dC (.int 2))) (dCons (dC (.int 4)) (dCons (dVar 1) dNil)))) (dName 3))
  (dSeq (dAsg (dCal S_q16 (dCons (dVar 0) (dCons (dVar 2) (dCons (dVar 3) (dCons (dTup (dCons (dC (.int 6)) (dCons (dC (.int 9)) (dCons (dC (.int 24)) (dCons (dC (.int 4)) dNil))))) dNil))))) (dName 4))
  (dSeq (dIfS (dTst (dOp (pEq false) (dOp pMod (dCal S_q4 (dCons (dVar 0) (dCons (dC (.int 8)) dNil))) (dC (.int 3))) (dC (.int 0)))) (dAsg (dCal S_q20 (dCons (dVar 4) (dCons (dVar 3) (dCons (dOp pMod (dOp pDiv (dCal S_q4 (dCons (dVar 0) (dCons (dC (.int 8)) dNil))) (dC (.int 3))) (dC (.int 3))) dNil)))) (dName 4)) dNext)
  (dSeq (dAsg (dV (dListOf (dCons (dVar 4) dNil))) (dName 5))
  (dSeq (dAsg (dCal S_q23 (dCons (dVar 4) dNil)) (dName 6))
  (dSeq (dIfS (dOr (dNot (dTr (dCal S_q9 (dCons (dVar 6) (dCons (dVar 4) dNil))))) (dTst (dOp (pEq true) (dVar 4) (dVar 5)))) (dRet (dC (.bl false))) dNext)
  (dSeq (dDrop (dClear (dOp pIx (dOp pIx (dVar 6) (dC (.int 0))) (dC (.int 2)))))
  (dSeq (dDrop (dClear (dVar 6)))
  (dRet (dCal S_q9 (dCons (dCal S_q23 (dCons (dVar 4) dNil)) (dCons (dVar 5) dNil))))))))))))))
theorem wid_len{nm:List Str}{m:Nat}{F:Fu}(v:VarOk nm F):(wid nm m F).vars.length ≤ nm.length:=by
 obtain ⟨o,nd,lt,ev⟩:=v
 show (F.vars ++ (nm.filter fun s=>!F.vars.contains s).take m).length ≤ nm.length
 rw [List.length_append,List.length_take]
 have e1:F.vars.length=o.length:=by rw [ev,List.length_map]
 have e2:nm=(List.range nm.length).map fun i=>nm.getD i "":=by
  apply List.ext_getElem?
  intro i
  rw [List.getElem?_map]
  by_cases z:i < nm.length
  ·rw [List.getElem?_range z,List.getElem?_eq_getElem z]
   show _=some (nm.getD i "")
   rw [List.getD_eq_getElem?_getD,List.getElem?_eq_getElem z];rfl
  ·rw [List.getElem?_eq_none (by first | decide | omega),List.getElem?_eq_none (by rw [List.length_range];omega)];rfl
 have e3:(nm.filter fun s=>!F.vars.contains s).length=((List.range nm.length).filter fun i=>!F.vars.contains (nm.getD i "")).length:=by
  conv=>lhs;rw [e2]
  rw [List.filter_map,List.length_map];rfl
 have nd2:(o ++ (List.range nm.length).filter fun i=>!F.vars.contains (nm.getD i "")).Nodup:=by
  rw [List.nodup_append]
  refine ⟨nd,List.nodup_range.sublist List.filter_sublist,fun a ha b hb q=>?_⟩
  subst q
  have h1:=(List.mem_filter.mp hb).2
  have h2:nm.getD a "" ∈ F.vars:=by rw [ev];exact List.mem_map.mpr ⟨a,ha,rfl⟩
  have h3:F.vars.contains (nm.getD a "")=true:=List.contains_iff_mem.mpr h2
  rw [h3] at h1;cases h1
 have:=nd_len nm.length _ nd2 (fun x hx=>by
  rcases List.mem_append.mp hx with z | z
  ·exact lt x z
  ·exact List.mem_range.mp (List.mem_filter.mp z).1)
 rw [List.length_append] at this
 omega
theorem wid_ok{P:List Fu}{nm:List Str}{m:Nat}(n4:nm.length=4)(ok:PrG P)(mn:many (chartQ P P) ≤ 24)(v:∀ F ∈ P,VarOk nm F):PrG (P.map (wid nm m))∧many (chartQ (P.map (wid nm m)) (P.map (wid nm m))) ≤ 24:=by
 have vl:∀ F:Fu,F.vars.length ≤ (wid nm m F).vars.length:=fun F=>by
  show _ ≤ (F.vars ++ _).length
  rw [List.length_append];omega
 have v4:∀ F ∈ P,(wid nm m F).vars.length ≤ 4:=fun F hF=>by rw [← n4];exact wid_len (v F hF)
 refine ⟨{ six:=by rw [List.length_map];exact ok.six,vars:=fun F' hF'=>?_,rows:=fun F' hF'=>?_,ok:=fun F' hF' r hr=>?_,one:=by rw [List.length_map];exact ok.one,aim:=fun F' hF' r hr=>?_ },?_⟩
 ·obtain ⟨F,hF,rfl⟩:=List.mem_map.mp hF'
  exact v4 F hF
 ·obtain ⟨F,hF,rfl⟩:=List.mem_map.mp hF'
  exact ok.rows F hF
 ·obtain ⟨F,hF,rfl⟩:=List.mem_map.mp hF'
  have rk:=ok.ok F hF r hr
  have l1:=vl F
  have up:∀ r:Rw,rOk (F.vars.length + 2) r→rOk ((wid nm m F).vars.length + 2) r:=fun r ⟨a,b,c⟩=>⟨by first | decide | omega,fun v hv=>by have:=b v hv;omega,c⟩
  cases r with
  |call x g ys =>
   obtain ⟨o1,o2,G,hG,o3,o4⟩:=rk
   exact ⟨by first | decide | omega,fun y hy=>by have:=o2 y hy;omega,wid nm m G,by rw [List.getElem?_map,hG];rfl,v4 G (List.mem_of_getElem? hG),Nat.le_trans o4 (vl G)⟩
  |_=>exact up _ rk
 ·obtain ⟨F,hF,rfl⟩:=List.mem_map.mp hF'
  exact ok.aim F hF r hr
 ·have h1:∀ Q fs:List Fu,many (chartQ Q fs)=(fs.map fun F=>(F.rows.map wtR).sum).sum:=fun Q fs=>by
   unfold many chartQ
   rw [List.map_map]
   congr 1
   apply List.map_congr_left
   intro F _
   exact fnE_wt Q F
  rw [h1] at mn ⊢
  rw [List.map_map]
  exact mn
theorem chO_good(h:Hh)(P:List Fu):∃ js:List Nat,js.length=P.length∧(h ++ chO h.length (chartQ P P))[h.length]?=some (.lst ((P.zip js).map goD))∧(∀ x ∈ P.zip js,(h ++ chO h.length (chartQ P P))[x.2]?=some (.lst ((fnE P x.1).map eD)))∧∀ j ∈ js,h.length < j:=by
 refine ⟨(List.range P.length).map fun i=>h.length + 1 + i,by simp,?_,?_,fun j hj=>?_⟩
 ·rw [List.getElem?_append_right (Nat.le_refl _),Nat.sub_self]
  show some (O.lst (tops h.length (chartQ P P)))=_
  congr 2
  unfold tops chartQ
  apply List.ext_getElem?
  intro i
  rw [List.getElem?_map,List.getElem?_map,List.getElem?_zipIdx,List.getElem?_map]
  cases hF:P[i]? with
  |none =>
   have:(P.zip ((List.range P.length).map fun i=>h.length + 1 + i))[i]?=none:=List.getElem?_eq_none (by
    have:=List.getElem?_eq_none_iff.mp hF
    rw [List.length_zip,List.length_map,List.length_range];omega)
   rw [this];rfl
  |some F =>
   have il:=(List.getElem?_eq_some_iff.mp hF).1
   have:(P.zip ((List.range P.length).map fun i=>h.length + 1 + i))[i]?=some (F,h.length + 1 + i):=List.getElem?_zip_eq_some.mpr ⟨hF,by rw [List.getElem?_map,List.getElem?_range il];rfl⟩
   rw [this]
   show some (D.tup [nD (F.rows.length + 1),nD (F.vars.length + 2),.ref (h.length + 1 + (0 + i))])=_
   rw [Nat.zero_add];rfl
 ·rintro ⟨F,j⟩ hx
  obtain ⟨i,hi⟩:=List.mem_iff_getElem?.mp hx
  obtain ⟨h1,h2⟩:=List.getElem?_zip_eq_some.mp hi
  have h1:P[i]?=some F:=h1
  have il:=(List.getElem?_eq_some_iff.mp h1).1
  have h2:((List.range P.length).map fun i=>h.length + 1 + i)[i]?=some j:=h2
  rw [List.getElem?_map,List.getElem?_range il] at h2
  cases h2
  show (h ++ chO h.length (chartQ P P))[h.length + 1 + i]?=_
  rw [List.getElem?_append_right (by first | decide | omega),show h.length + 1 + i - h.length=i + 1 by first | decide | omega]
  show ((chartQ P P).map fE)[i]?=_
  unfold chartQ
  rw [List.getElem?_map,List.getElem?_map,h1];rfl
 ·obtain ⟨i,_,rfl⟩:=List.mem_map.mp hj
  omega
noncomputable def roP:Rw→PyData
 |.num x k=>.tuple [.str "number",.int x,.int k]
 |.copy x y=>.tuple [.str "copy",.int x,.int y]
 |.does x o y z=>.tuple [.str "does",.int x,.str o,.int y,.int z]
 |.dye x=>.tuple [.str "dye",.int x]
 |.wash x=>.tuple [.str "wash",.int x]
 |.ifq x q=>.tuple [.str "if",.int x,.int q]
 |.to q=>.tuple [.str "to",.int q]
 |.ret x=>.tuple [.str "return",.int x]
 |.call x g ys=>.tuple [.str "call",.int x,.int g,.tuple (ys.map fun y:Nat=>.int (y:Int))]
theorem pd_ro(h:Hh)(r:Rw)(o:opOk r):Pd h (roD r) (roP r) 2:=by
 cases r with
 |num x k=>exact .tup (.cons (.str K64w.sk_number_) (.cons (.int _) (.cons (.int _) .nil)))
 |copy x y=>exact .tup (.cons (.str K64w.sk_copy_) (.cons (.int _) (.cons (.int _) .nil)))
 |does x w y z=>exact .tup (.cons (.str K64w.sk_does_) (.cons (.int _) (.cons (.str o) (.cons (.int _) (.cons (.int _) .nil)))))
 |dye x=>exact .tup (.cons (.str K64w.sk_dye_) (.cons (.int _) .nil))
 |wash x=>exact .tup (.cons (.str K64w.sk_wash_) (.cons (.int _) .nil))
 |ifq x q=>exact .tup (.cons (.str K64w.sk_if_) (.cons (.int _) (.cons (.int _) .nil)))
 |to q=>exact .tup (.cons (.str K64w.sk_to_) (.cons (.int _) .nil))
 |ret x=>exact .tup (.cons (.str K64w.sk_return_) (.cons (.int _) .nil))
 |call x g ys=>exact .tup (.cons (.str sk_call) (.cons (.int _) (.cons (.int _) (.cons (Pd.tup (n:=0) (Pds.map fun y=>.int _)) .nil))))
noncomputable def fuP(F:Fu):PyData:=.tuple [.str F.name,.int F.given,.tuple (F.vars.map .str),.tuple (F.rows.map roP)]
theorem Pds.mapM{τ:Type}{h:Hh}{n:Nat}{f:τ→D}{g:τ→PyData}:∀ {xs:List τ},(∀ x ∈ xs,Pd h (f x) (g x) n)→Pds h (xs.map f) (xs.map g) n
 |[],_=>.nil
 |x :: xs,k=>.cons (k x (by simp)) (Pds.mapM fun y hy=>k y (by simp [hy]))
theorem pd_fu(h:Hh)(F:Fu)(t:TxF F):Pd h (fuD F) (fuP F) 4:=.tup (.cons (.str t.1) (.cons (.int _) (.cons (Pd.tup (n:=2) (Pds.mapM fun v hv=>.str (t.2.1 v hv))) (.cons (Pd.tup (n:=2) (Pds.mapM fun r hr=>pd_ro h r (t.2.2 r hr))) .nil))))
noncomputable def S_q31:DSp:=runD 7 b_q31
theorem imp_q31:∀ ds h Q,S_q31 ds h Q→runD 7 b_q31 ds h Q:=fun _ _ _ h=>h
theorem law_true(ns:List Int)(hl:ns.length ≤ 63)(hb:∀ x ∈ ns,Builtin.Int.intBits x ≤ 1048576):S_q31 [.scr (ns.map D.int)] [] (fun v _=>v = .bl true):=by
 unfold S_q31
 delta runD b_q31;simp only [List.map_cons,List.map_nil,List.cons_append,List.nil_append,List.length_cons,List.length_nil,List.replicate,Nat.reduceSub,Nat.reduceAdd,Nat.zero_add,Nat.sub_self]
 (try dsimp only);refine seq_intro fun N hN=>?_
 simp only [VV]
 refine ⟨ns,7,rfl,hl,hb,by decide,fun r7=>?_⟩
 simp only [VV]
 refine ⟨by decide,?_⟩
 generalize (r7 % 2 == 1)=free
 subst hN
 (try dsimp only);refine seq_intro fun N hN=>?_
 simp only [VV]
 refine ⟨ns,6,rfl,hl,hb,by decide,fun r6=>?_⟩
 simp only [VV]
 refine ⟨r6,6,free,rfl,by decide,fun ws w6 wok=>?_⟩
 subst hN
 (try dsimp only);refine seq_intro fun N hN=>?_
 simp only [VV]
 refine ⟨ns,7,rfl,hl,hb,by decide,fun r7'=>?_⟩
 simp only [VV]
 refine ⟨⟨by decide,by decide⟩,r7' / 2,4,free,rfl,by decide,fun nm n4 nok=>?_⟩
 subst hN
 (try dsimp only);refine seq_intro fun N hN=>?_
 simp only [VV]
 refine ⟨ns,ws,nm,rfl,hl,hb,w6,n4,wok,nok,fun P pg pm pv pt=>?_⟩
 subst hN
 (try dsimp only);refine seq_intro fun N hN=>?_
 have rest:∀ P:List Fu,PrG P→many (chartQ P P) ≤ 24→(∀ F ∈ P,TxF F)→N [some (.scr (ns.map .int)),some (.bl free),some (.lst (ws.map .str)),some (.lst (nm.map .str)),some (.lst (P.map fuD)),none,none] []:=by
  intro P pg pm pt
  subst hN
  (try dsimp only);refine seq_intro fun N hN=>?_
  simp only [VV]
  subst hN
  (try dsimp only);refine seq_intro fun N hN=>?_
  simp only [VV]
  refine ⟨P,rfl,pg.toPrOk,?_⟩
  obtain ⟨js,jl,j1,j2,j3⟩:=chO_good [] P
  generalize hH:[] ++ chO (List.length ([]:Hh)) (chartQ P P)=H at j1 j2
  show N [some (.scr (ns.map .int)),some (.bl free),some (.lst (ws.map .str)),some (.lst (nm.map .str)),some (.lst (P.map fuD)),some (.lst (P.map fuD)),some (.ref 0)] H
  have j1:H[0]?=some (.lst ((P.zip js).map goD)):=j1
  subst hN
  (try dsimp only);refine seq_intro fun N hN=>?_
  simp only [VV0]
  refine ⟨0,P,js,rfl,jl,j1,j2,pg,pm,?_⟩
  simp only [VV0]
  refine pEq_same rfl (Pd.lst (Pds.mapM fun F hF=>pd_fu _ F (pt F hF))) (Pd.lst (Pds.mapM fun F hF=>pd_fu _ F (pt F hF))) (by decide) ?_
  dsimp only
  rw [Bool.not_true]
  refine iteF ?_
  have p1:=pg.one
  obtain ⟨F0,hF0⟩:∃ F,P[0]?=some F:=⟨_,List.getElem?_eq_getElem (by first | decide | omega)⟩
  obtain ⟨j0,hj0⟩:∃ j,js[0]?=some j:=⟨_,List.getElem?_eq_getElem (by first | decide | omega)⟩
  have z0:(P.zip js)[0]?=some (F0,j0):=List.getElem?_zip_eq_some.mpr ⟨hF0,hj0⟩
  have jn:0 < j0:=j3 j0 (List.mem_of_getElem? hj0)
  have hE:H[j0]?=some (.lst ((fnE P F0).map eD)):=j2 (F0,j0) (List.mem_of_getElem? z0)
  have ix0:ixD H (.ref 0) (.int 0)=some (.tup [nD (F0.rows.length + 1),nD (F0.vars.length + 2),.ref j0]):=by
   rw [ix_ls (lsOf_ref j1),show (0:Int)=((0:Nat):Int) from rfl,atN,List.getElem?_map,z0];rfl
  have g0:(H.set j0 (O.lst []))[0]?=some (.lst ((P.zip js).map goD)):=by rw [List.getElem?_set_ne (by first | decide | omega)];exact j1
  subst hN
  (try dsimp only);refine seq_intro fun N hN=>?_
  simp only [ix0,hE,VV]
  subst hN
  (try dsimp only);refine seq_intro fun N hN=>?_
  simp only [g0,VV]
  generalize (H.set j0 (O.lst [])).set 0 (O.lst [])=H3
  subst hN
  simp only [VV]
  refine ⟨P,rfl,pg.toPrOk,?_⟩
  obtain ⟨js3,l1,l2,l3,_⟩:=chO_good H3 P
  exact ⟨H3.length,P,js3,rfl,l1,l2,l3,pg,pm,rfl⟩
 (try dsimp only);refine if_intro fun A1 B1 hA hB=>?_
 simp only [VV]
 refine ⟨ns,8,rfl,hl,hb,by decide,fun r8=>?_⟩
 simp only [VV]
 refine ⟨by decide,?_⟩
 refine iteB (fun z=>?_) (fun z=>?_)
 ·subst hA
  simp only [VV]
  refine ⟨ns,8,rfl,hl,hb,by decide,fun r9=>?_⟩
  simp only [VV]
  refine ⟨⟨by decide,by decide⟩,by decide,?_⟩
  obtain ⟨mm,hmm,emm⟩:=mdN (r9 / 3) 3 (by decide)
  have emm:r9 / 3 % 3=(mm:Int):=emm
  rw [emm]
  refine ⟨P,nm,mm,rfl,pg.six,by first | decide | omega,by first | decide | omega,fun F hF=>Nat.le_trans (pg.vars F hF) (by decide),?_⟩
  obtain ⟨pg',pm'⟩:=wid_ok (m:=mm) n4 pg pm pv
  refine rest _ pg' pm' fun F' hF'=>?_
  obtain ⟨F,hF,rfl⟩:=List.mem_map.mp hF'
  obtain ⟨t1,t2,t3⟩:=pt F hF
  refine ⟨t1,fun v hv=>?_,t3⟩
  rcases List.mem_append.mp hv with z | z
  ·exact t2 v z
  ·exact nok v (List.mem_filter.mp (List.mem_of_mem_take z)).1
 ·subst hB
  simp only [VV]
  exact rest P pg pm pt
theorem ok_q31{f:Addr}{fd:FuncData}(F:Fun K "law" "law" s_q31 f fd)(T:Txt P w K mg)(C_q4:Cal P w K mg base 1 "_law_cell_at" ["_law_script","_law_k"] (spD K 2 S_q4))(C_q14:Cal P w K mg base 2 "_law_names" ["_law_cell","_law_many","_law_free"] (spD K 3 S_q14))(C_q16:Cal P w K mg base 4 "_law_program" ["_law_script","_law_words","_law_names_here","_law_sizes"] (spD K 4 S_q16))(C_q20:Cal P w K mg base 1 "_law_widened" ["_law_program_here","_law_names_here","_law_many"] (spD K 3 S_q20))(C_q23:Cal P w K mg base 5 "chart_of" ["program"] (spD K 1 S_q23))(C_q9:Cal P w K mg base 6 "_law_good" ["_law_chart","_law_program_here"] (spD K 2 S_q9)):FnOk P w K mg base CX0 7 f fd ["_law_script"] (spD K 1 S_q31) :=
 fn_ok (k:=6) (b:=b_q31) F sc_q31 (fun cdv A outer s H E hr=>by
  refine ss_cons ?_ ?_
  ·refine s_set (i:=1) ?_ ?_ ?_ ?_
   ·exact sc_q31.nd
   ·exact rfl
   ·exact Or.inl rfl
   exact se_cmp (ok_eq hr.units) (se_op ok_mod (se_cal C_q4 (hr.mono (by decide)) rfl (sa_cons (sv 0) (sa_cons se_int sa_nil))) se_int) se_int (nomark _)
  refine ss_cons ?_ ?_
  ·refine s_set (i:=2) ?_ ?_ ?_ ?_
   ·exact sc_q31.nd
   ·exact rfl
   ·exact Or.inl rfl
   exact se_cal C_q14 (hr.mono (by decide)) rfl (sa_cons (se_cal C_q4 (hr.mono (by decide)) rfl (sa_cons (sv 0) (sa_cons se_int sa_nil))) (sa_cons se_int (sa_cons (sv 1) sa_nil)))
  refine ss_cons ?_ ?_
  ·refine s_set (i:=3) ?_ ?_ ?_ ?_
   ·exact sc_q31.nd
   ·exact rfl
   ·exact Or.inl rfl
   exact se_cal C_q14 (hr.mono (by decide)) rfl (sa_cons (se_op ok_div (se_cal C_q4 (hr.mono (by decide)) rfl (sa_cons (sv 0) (sa_cons se_int sa_nil))) se_int) (sa_cons se_int (sa_cons (sv 1) sa_nil)))
  refine ss_cons ?_ ?_
  ·refine s_set (i:=4) ?_ ?_ ?_ ?_
   ·exact sc_q31.nd
   ·exact rfl
   ·exact Or.inl rfl
   exact se_cal C_q16 (hr.mono (by decide)) rfl (sa_cons (sv 0) (sa_cons (sv 2) (sa_cons (sv 3) (sa_cons (se_tup (sa_cons se_int (sa_cons se_int (sa_cons se_int (sa_cons se_int sa_nil))))) sa_nil))))
  refine ss_cons ?_ ?_
  ·refine s_if ?_ ?_ ?_
   ·exact st_cmp (ok_eq hr.units) (se_op ok_mod (se_cal C_q4 (hr.mono (by decide)) rfl (sa_cons (sv 0) (sa_cons se_int sa_nil))) se_int) se_int (nomark _)
   ·refine ss_one ?_
    refine s_set (i:=4) ?_ ?_ ?_ ?_
    ·exact sc_q31.nd
    ·exact rfl
    ·exact Or.inl rfl
    exact se_cal C_q20 (hr.mono (by decide)) rfl (sa_cons (sv 4) (sa_cons (sv 3) (sa_cons (se_op ok_mod (se_op ok_div (se_cal C_q4 (hr.mono (by decide)) rfl (sa_cons (sv 0) (sa_cons se_int sa_nil))) se_int) se_int) sa_nil)))
   exact ss_nil
  refine ss_cons ?_ ?_
  ·refine s_set (i:=5) ?_ ?_ ?_ ?_
   ·exact sc_q31.nd
   ·exact rfl
   ·exact Or.inl rfl
   refine se_v ?_
   exact sn_list rfl T.b_list (sa_cons (sv 4) sa_nil)
  refine ss_cons ?_ ?_
  ·refine s_set (i:=6) ?_ ?_ ?_ ?_
   ·exact sc_q31.nd
   ·exact rfl
   ·exact Or.inl rfl
   exact se_cal C_q23 (hr.mono (by decide)) rfl (sa_cons (sv 4) sa_nil)
  refine ss_cons ?_ ?_
  ·refine s_if ?_ ?_ ?_
   ·exact st_w (sw_or (st_not (st_truth (se_cal C_q9 (hr.mono (by decide)) rfl (sa_cons (sv 6) (sa_cons (sv 4) sa_nil))))) (sw_or1 (st_cmp (ok_ne hr.units) (sv 4) (sv 5) (nomark _))))
   ·refine ss_one ?_
    refine s_ret ?_
    exact se_bl
   exact ss_nil
  refine ss_cons ?_ ?_
  ·refine s_expr ?_
   exact se_clear (se_ix ok_ix (se_ix ok_ix (sv 6) se_int (fun _ _=>rfl)) se_int (fun _ _=>rfl))
  refine ss_cons ?_ ?_
  ·refine s_expr ?_
   exact se_clear (sv 6)
  refine ss_one ?_
  refine s_ret ?_
  exact se_cal C_q9 (hr.mono (by decide)) rfl (sa_cons (se_cal C_q23 (hr.mono (by decide)) rfl (sa_cons (sv 4) sa_nil)) (sa_cons (sv 5) sa_nil))) imp_q31
end
theorem len_s{α:Type}{n:Nat}{us:List α}(h:us.length=n + 1):∃ a t,us=a :: t∧t.length=n:=by
 cases us with
 |nil=>cases h
 |cons a t=>exact ⟨a,t,rfl,Nat.succ.inj h⟩
theorem len_z{α:Type}{us:List α}(h:us.length=0):us=[]:=List.length_eq_zero_iff.mp h
theorem ln1{F:FuncData}{ps:List Str}{us:List Value}(h:us.length=1)(k:∀ a,bindArgs F ⟨[a],[]⟩=pure (ps.zip [a])):bindArgs F ⟨us,[]⟩=pure (ps.zip us):=by
 obtain ⟨a,us1,rfl,h1⟩:=len_s h
 cases len_z h1
 exact k a
theorem ln2{F:FuncData}{ps:List Str}{us:List Value}(h:us.length=2)(k:∀ a b,bindArgs F ⟨[a,b],[]⟩=pure (ps.zip [a,b])):bindArgs F ⟨us,[]⟩=pure (ps.zip us):=by
 obtain ⟨a,us1,rfl,h1⟩:=len_s h
 obtain ⟨b,us2,rfl,h2⟩:=len_s h1
 cases len_z h2
 exact k a b
theorem ln3{F:FuncData}{ps:List Str}{us:List Value}(h:us.length=3)(k:∀ a b c,bindArgs F ⟨[a,b,c],[]⟩=pure (ps.zip [a,b,c])):bindArgs F ⟨us,[]⟩=pure (ps.zip us):=by
 obtain ⟨a,us1,rfl,h1⟩:=len_s h
 obtain ⟨b,us2,rfl,h2⟩:=len_s h1
 obtain ⟨c,us3,rfl,h3⟩:=len_s h2
 cases len_z h3
 exact k a b c
theorem ln4{F:FuncData}{ps:List Str}{us:List Value}(h:us.length=4)(k:∀ a b c d,bindArgs F ⟨[a,b,c,d],[]⟩=pure (ps.zip [a,b,c,d])):bindArgs F ⟨us,[]⟩=pure (ps.zip us):=by
 obtain ⟨a,us1,rfl,h1⟩:=len_s h
 obtain ⟨b,us2,rfl,h2⟩:=len_s h1
 obtain ⟨c,us3,rfl,h3⟩:=len_s h2
 obtain ⟨d,us4,rfl,h4⟩:=len_s h3
 cases len_z h4
 exact k a b c d
theorem ln5{F:FuncData}{ps:List Str}{us:List Value}(h:us.length=5)(k:∀ a b c d e,bindArgs F ⟨[a,b,c,d,e],[]⟩=pure (ps.zip [a,b,c,d,e])):bindArgs F ⟨us,[]⟩=pure (ps.zip us):=by
 obtain ⟨a,us1,rfl,h1⟩:=len_s h
 obtain ⟨b,us2,rfl,h2⟩:=len_s h1
 obtain ⟨c,us3,rfl,h3⟩:=len_s h2
 obtain ⟨d,us4,rfl,h4⟩:=len_s h3
 obtain ⟨e,us5,rfl,h5⟩:=len_s h4
 cases len_z h5
 exact k a b c d e
theorem all_mk{l:PySem.W.OpenLaw}{w:World}{K:PySem.W.Frag}{h:Heap}{mg:Str→Option Value}{fa a_q34 a_q30 a_q28 a_q23 a_q29 a_q33 a_q32 a_q35 a_q21 a_q37 a_q26 a_q25 a_q24 a_q27 a_q22 a_q36 a_q4 a_q5 a_q19 a_q6 a_q18 a_q14 a_q2 a_q7 a_q13 a_q17 a_q16 a_q3 a_q10 a_q1 a_q15 a_q12 a_q8 a_q11 a_q0 a_q9 a_q20 a_q31:Addr}(X:K.In h)(G:h.Ns mainGlobals mg)(hfa:mg "law" = some (.ref fa))
  {od_q34 an_q34:Option Addr} {sl_q34:Array (Option Value)} {oc_q34 kV_q34 dc_q34 pm_q34 cd_q34 ct_q34:Value}
  {od_q30 an_q30:Option Addr} {sl_q30:Array (Option Value)} {oc_q30 kV_q30 dc_q30 pm_q30 cd_q30 ct_q30:Value}
  {od_q28 an_q28:Option Addr} {sl_q28:Array (Option Value)} {oc_q28 kV_q28 dc_q28 pm_q28 cd_q28 ct_q28:Value}
  {od_q23 an_q23:Option Addr} {sl_q23:Array (Option Value)} {oc_q23 kV_q23 dc_q23 pm_q23 cd_q23 ct_q23:Value}
  {od_q29 an_q29:Option Addr} {sl_q29:Array (Option Value)} {oc_q29 kV_q29 dc_q29 pm_q29 cd_q29 ct_q29:Value}
  {od_q33 an_q33:Option Addr} {sl_q33:Array (Option Value)} {oc_q33 kV_q33 dc_q33 pm_q33 cd_q33 ct_q33:Value}
  {od_q32 an_q32:Option Addr} {sl_q32:Array (Option Value)} {oc_q32 kV_q32 dc_q32 pm_q32 cd_q32 ct_q32:Value}
  {od_q35 an_q35:Option Addr} {sl_q35:Array (Option Value)} {oc_q35 kV_q35 dc_q35 pm_q35 cd_q35 ct_q35:Value}
  {od_q21 an_q21:Option Addr} {sl_q21:Array (Option Value)} {oc_q21 kV_q21 dc_q21 pm_q21 cd_q21 ct_q21:Value}
  {od_q37 an_q37:Option Addr} {sl_q37:Array (Option Value)} {oc_q37 kV_q37 dc_q37 pm_q37 cd_q37 ct_q37:Value}
  {od_q26 an_q26:Option Addr} {sl_q26:Array (Option Value)} {oc_q26 kV_q26 dc_q26 pm_q26 cd_q26 ct_q26:Value}
  {od_q25 an_q25:Option Addr} {sl_q25:Array (Option Value)} {oc_q25 kV_q25 dc_q25 pm_q25 cd_q25 ct_q25:Value}
  {od_q24 an_q24:Option Addr} {sl_q24:Array (Option Value)} {oc_q24 kV_q24 dc_q24 pm_q24 cd_q24 ct_q24:Value}
  {od_q27 an_q27:Option Addr} {sl_q27:Array (Option Value)} {oc_q27 kV_q27 dc_q27 pm_q27 cd_q27 ct_q27:Value}
  {od_q22 an_q22:Option Addr} {sl_q22:Array (Option Value)} {oc_q22 kV_q22 dc_q22 pm_q22 cd_q22 ct_q22:Value}
  {od_q36 an_q36:Option Addr} {sl_q36:Array (Option Value)} {oc_q36 kV_q36 dc_q36 pm_q36 cd_q36 ct_q36:Value}
  {od_q4 an_q4:Option Addr} {sl_q4:Array (Option Value)} {oc_q4 kV_q4 dc_q4 pm_q4 cd_q4 ct_q4:Value}
  {od_q5 an_q5:Option Addr} {sl_q5:Array (Option Value)} {oc_q5 kV_q5 dc_q5 pm_q5 cd_q5 ct_q5:Value}
  {od_q19 an_q19:Option Addr} {sl_q19:Array (Option Value)} {oc_q19 kV_q19 dc_q19 pm_q19 cd_q19 ct_q19:Value}
  {od_q6 an_q6:Option Addr} {sl_q6:Array (Option Value)} {oc_q6 kV_q6 dc_q6 pm_q6 cd_q6 ct_q6:Value}
  {od_q18 an_q18:Option Addr} {sl_q18:Array (Option Value)} {oc_q18 kV_q18 dc_q18 pm_q18 cd_q18 ct_q18:Value}
  {od_q14 an_q14:Option Addr} {sl_q14:Array (Option Value)} {oc_q14 kV_q14 dc_q14 pm_q14 cd_q14 ct_q14:Value}
  {od_q2 an_q2:Option Addr} {sl_q2:Array (Option Value)} {oc_q2 kV_q2 dc_q2 pm_q2 cd_q2 ct_q2:Value}
  {od_q7 an_q7:Option Addr} {sl_q7:Array (Option Value)} {oc_q7 kV_q7 dc_q7 pm_q7 cd_q7 ct_q7:Value}
  {od_q13 an_q13:Option Addr} {sl_q13:Array (Option Value)} {oc_q13 kV_q13 dc_q13 pm_q13 cd_q13 ct_q13:Value}
  {od_q17 an_q17:Option Addr} {sl_q17:Array (Option Value)} {oc_q17 kV_q17 dc_q17 pm_q17 cd_q17 ct_q17:Value}
  {od_q16 an_q16:Option Addr} {sl_q16:Array (Option Value)} {oc_q16 kV_q16 dc_q16 pm_q16 cd_q16 ct_q16:Value}
  {od_q3 an_q3:Option Addr} {sl_q3:Array (Option Value)} {oc_q3 kV_q3 dc_q3 pm_q3 cd_q3 ct_q3:Value}
  {od_q10 an_q10:Option Addr} {sl_q10:Array (Option Value)} {oc_q10 kV_q10 dc_q10 pm_q10 cd_q10 ct_q10:Value}
  {od_q1 an_q1:Option Addr} {sl_q1:Array (Option Value)} {oc_q1 kV_q1 dc_q1 pm_q1 cd_q1 ct_q1:Value}
  {od_q15 an_q15:Option Addr} {sl_q15:Array (Option Value)} {oc_q15 kV_q15 dc_q15 pm_q15 cd_q15 ct_q15:Value}
  {od_q12 an_q12:Option Addr} {sl_q12:Array (Option Value)} {oc_q12 kV_q12 dc_q12 pm_q12 cd_q12 ct_q12:Value}
  {od_q8 an_q8:Option Addr} {sl_q8:Array (Option Value)} {oc_q8 kV_q8 dc_q8 pm_q8 cd_q8 ct_q8:Value}
  {od_q11 an_q11:Option Addr} {sl_q11:Array (Option Value)} {oc_q11 kV_q11 dc_q11 pm_q11 cd_q11 ct_q11:Value}
  {od_q0 an_q0:Option Addr} {sl_q0:Array (Option Value)} {oc_q0 kV_q0 dc_q0 pm_q0 cd_q0 ct_q0:Value}
  {od_q9 an_q9:Option Addr} {sl_q9:Array (Option Value)} {oc_q9 kV_q9 dc_q9 pm_q9 cd_q9 ct_q9:Value}
  {od_q20 an_q20:Option Addr} {sl_q20:Array (Option Value)} {oc_q20 kV_q20 dc_q20 pm_q20 cd_q20 ct_q20:Value}
  {od_q31 an_q31:Option Addr} {sl_q31:Array (Option Value)} {oc_q31 kV_q31 dc_q31 pm_q31 cd_q31 ct_q31:Value}
  (e_q34:PySem.W.nsIn K mainGlobals "same" = some (some (.ref a_q34))) (l_q34:K.lookup a_q34=some ⟨oc_q34,od_q34,.func (PySem.W.fnOf "same" "same" (defArgs s_q34) (defBody s_q34) (defScope s_q34) .none kV_q34 dc_q34 pm_q34 an_q34 cd_q34 ct_q34),sl_q34⟩) (c_q34:PySem.W.codeIn K cd_q34 "same" = true) (k_q34:PySem.W.keepIn K (.ref a_q34)=true)
  (e_q30:PySem.W.nsIn K mainGlobals "gathered" = some (some (.ref a_q30))) (l_q30:K.lookup a_q30=some ⟨oc_q30,od_q30,.func (PySem.W.fnOf "gathered" "gathered" (defArgs s_q30) (defBody s_q30) (defScope s_q30) .none kV_q30 dc_q30 pm_q30 an_q30 cd_q30 ct_q30),sl_q30⟩) (c_q30:PySem.W.codeIn K cd_q30 "gathered" = true) (k_q30:PySem.W.keepIn K (.ref a_q30)=true)
  (e_q28:PySem.W.nsIn K mainGlobals "either" = some (some (.ref a_q28))) (l_q28:K.lookup a_q28=some ⟨oc_q28,od_q28,.func (PySem.W.fnOf "either" "either" (defArgs s_q28) (defBody s_q28) (defScope s_q28) .none kV_q28 dc_q28 pm_q28 an_q28 cd_q28 ct_q28),sl_q28⟩) (c_q28:PySem.W.codeIn K cd_q28 "either" = true) (k_q28:PySem.W.keepIn K (.ref a_q28)=true)
  (e_q23:PySem.W.nsIn K mainGlobals "chart_of" = some (some (.ref a_q23))) (l_q23:K.lookup a_q23=some ⟨oc_q23,od_q23,.func (PySem.W.fnOf "chart_of" "chart_of" (defArgs s_q23) (defBody s_q23) (defScope s_q23) .none kV_q23 dc_q23 pm_q23 an_q23 cd_q23 ct_q23),sl_q23⟩) (c_q23:PySem.W.codeIn K cd_q23 "chart_of" = true) (k_q23:PySem.W.keepIn K (.ref a_q23)=true)
  (e_q29:PySem.W.nsIn K mainGlobals "facts_of" = some (some (.ref a_q29))) (l_q29:K.lookup a_q29=some ⟨oc_q29,od_q29,.func (PySem.W.fnOf "facts_of" "facts_of" (defArgs s_q29) (defBody s_q29) (defScope s_q29) .none kV_q29 dc_q29 pm_q29 an_q29 cd_q29 ct_q29),sl_q29⟩) (c_q29:PySem.W.codeIn K cd_q29 "facts_of" = true) (k_q29:PySem.W.keepIn K (.ref a_q29)=true)
  (e_q33:PySem.W.nsIn K mainGlobals "row_edges" = some (some (.ref a_q33))) (l_q33:K.lookup a_q33=some ⟨oc_q33,od_q33,.func (PySem.W.fnOf "row_edges" "row_edges" (defArgs s_q33) (defBody s_q33) (defScope s_q33) .none kV_q33 dc_q33 pm_q33 an_q33 cd_q33 ct_q33),sl_q33⟩) (c_q33:PySem.W.codeIn K cd_q33 "row_edges" = true) (k_q33:PySem.W.keepIn K (.ref a_q33)=true)
  (e_q32:PySem.W.nsIn K mainGlobals "places_behind" = some (some (.ref a_q32))) (l_q32:K.lookup a_q32=some ⟨oc_q32,od_q32,.func (PySem.W.fnOf "places_behind" "places_behind" (defArgs s_q32) (defBody s_q32) (defScope s_q32) .none kV_q32 dc_q32 pm_q32 an_q32 cd_q32 ct_q32),sl_q32⟩) (c_q32:PySem.W.codeIn K cd_q32 "places_behind" = true) (k_q32:PySem.W.keepIn K (.ref a_q32)=true)
  (e_q35:PySem.W.nsIn K mainGlobals "step_table" = some (some (.ref a_q35))) (l_q35:K.lookup a_q35=some ⟨oc_q35,od_q35,.func (PySem.W.fnOf "step_table" "step_table" (defArgs s_q35) (defBody s_q35) (defScope s_q35) .none kV_q35 dc_q35 pm_q35 an_q35 cd_q35 ct_q35),sl_q35⟩) (c_q35:PySem.W.codeIn K cd_q35 "step_table" = true) (k_q35:PySem.W.keepIn K (.ref a_q35)=true)
  (e_q21:PySem.W.nsIn K mainGlobals "call_edge" = some (some (.ref a_q21))) (l_q21:K.lookup a_q21=some ⟨oc_q21,od_q21,.func (PySem.W.fnOf "call_edge" "call_edge" (defArgs s_q21) (defBody s_q21) (defScope s_q21) .none kV_q21 dc_q21 pm_q21 an_q21 cd_q21 ct_q21),sl_q21⟩) (c_q21:PySem.W.codeIn K cd_q21 "call_edge" = true) (k_q21:PySem.W.keepIn K (.ref a_q21)=true)
  (e_q37:PySem.W.nsIn K mainGlobals "without" = some (some (.ref a_q37))) (l_q37:K.lookup a_q37=some ⟨oc_q37,od_q37,.func (PySem.W.fnOf "without" "without" (defArgs s_q37) (defBody s_q37) (defScope s_q37) .none kV_q37 dc_q37 pm_q37 an_q37 cd_q37 ct_q37),sl_q37⟩) (c_q37:PySem.W.codeIn K cd_q37 "without" = true) (k_q37:PySem.W.keepIn K (.ref a_q37)=true)
  (e_q26:PySem.W.nsIn K mainGlobals "checked" = some (some (.ref a_q26))) (l_q26:K.lookup a_q26=some ⟨oc_q26,od_q26,.func (PySem.W.fnOf "checked" "checked" (defArgs s_q26) (defBody s_q26) (defScope s_q26) .none kV_q26 dc_q26 pm_q26 an_q26 cd_q26 ct_q26),sl_q26⟩) (c_q26:PySem.W.codeIn K cd_q26 "checked" = true) (k_q26:PySem.W.keepIn K (.ref a_q26)=true)
  (e_q25:PySem.W.nsIn K mainGlobals "check_functions" = some (some (.ref a_q25))) (l_q25:K.lookup a_q25=some ⟨oc_q25,od_q25,.func (PySem.W.fnOf "check_functions" "check_functions" (defArgs s_q25) (defBody s_q25) (defScope s_q25) .none kV_q25 dc_q25 pm_q25 an_q25 cd_q25 ct_q25),sl_q25⟩) (c_q25:PySem.W.codeIn K cd_q25 "check_functions" = true) (k_q25:PySem.W.keepIn K (.ref a_q25)=true)
  (e_q24:PySem.W.nsIn K mainGlobals "check_edges" = some (some (.ref a_q24))) (l_q24:K.lookup a_q24=some ⟨oc_q24,od_q24,.func (PySem.W.fnOf "check_edges" "check_edges" (defArgs s_q24) (defBody s_q24) (defScope s_q24) .none kV_q24 dc_q24 pm_q24 an_q24 cd_q24 ct_q24),sl_q24⟩) (c_q24:PySem.W.codeIn K cd_q24 "check_edges" = true) (k_q24:PySem.W.keepIn K (.ref a_q24)=true)
  (e_q27:PySem.W.nsIn K mainGlobals "edge_fits" = some (some (.ref a_q27))) (l_q27:K.lookup a_q27=some ⟨oc_q27,od_q27,.func (PySem.W.fnOf "edge_fits" "edge_fits" (defArgs s_q27) (defBody s_q27) (defScope s_q27) .none kV_q27 dc_q27 pm_q27 an_q27 cd_q27 ct_q27),sl_q27⟩) (c_q27:PySem.W.codeIn K cd_q27 "edge_fits" = true) (k_q27:PySem.W.keepIn K (.ref a_q27)=true)
  (e_q22:PySem.W.nsIn K mainGlobals "call_fits" = some (some (.ref a_q22))) (l_q22:K.lookup a_q22=some ⟨oc_q22,od_q22,.func (PySem.W.fnOf "call_fits" "call_fits" (defArgs s_q22) (defBody s_q22) (defScope s_q22) .none kV_q22 dc_q22 pm_q22 an_q22 cd_q22 ct_q22),sl_q22⟩) (c_q22:PySem.W.codeIn K cd_q22 "call_fits" = true) (k_q22:PySem.W.keepIn K (.ref a_q22)=true)
  (e_q36:PySem.W.nsIn K mainGlobals "table_fits" = some (some (.ref a_q36))) (l_q36:K.lookup a_q36=some ⟨oc_q36,od_q36,.func (PySem.W.fnOf "table_fits" "table_fits" (defArgs s_q36) (defBody s_q36) (defScope s_q36) .none kV_q36 dc_q36 pm_q36 an_q36 cd_q36 ct_q36),sl_q36⟩) (c_q36:PySem.W.codeIn K cd_q36 "table_fits" = true) (k_q36:PySem.W.keepIn K (.ref a_q36)=true)
  (e_q4:PySem.W.nsIn K mainGlobals "_law_cell_at" = some (some (.ref a_q4))) (l_q4:K.lookup a_q4=some ⟨oc_q4,od_q4,.func (PySem.W.fnOf "_law_cell_at" "_law_cell_at" (defArgs s_q4) (defBody s_q4) (defScope s_q4) .none kV_q4 dc_q4 pm_q4 an_q4 cd_q4 ct_q4),sl_q4⟩) (c_q4:PySem.W.codeIn K cd_q4 "_law_cell_at" = true) (k_q4:PySem.W.keepIn K (.ref a_q4)=true)
  (e_q5:PySem.W.nsIn K mainGlobals "_law_cells" = some (some (.ref a_q5))) (l_q5:K.lookup a_q5=some ⟨oc_q5,od_q5,.func (PySem.W.fnOf "_law_cells" "_law_cells" (defArgs s_q5) (defBody s_q5) (defScope s_q5) .none kV_q5 dc_q5 pm_q5 an_q5 cd_q5 ct_q5),sl_q5⟩) (c_q5:PySem.W.codeIn K cd_q5 "_law_cells" = true) (k_q5:PySem.W.keepIn K (.ref a_q5)=true)
  (e_q19:PySem.W.nsIn K mainGlobals "_law_stream" = some (some (.ref a_q19))) (l_q19:K.lookup a_q19=some ⟨oc_q19,od_q19,.func (PySem.W.fnOf "_law_stream" "_law_stream" (defArgs s_q19) (defBody s_q19) (defScope s_q19) .none kV_q19 dc_q19 pm_q19 an_q19 cd_q19 ct_q19),sl_q19⟩) (c_q19:PySem.W.codeIn K cd_q19 "_law_stream" = true) (k_q19:PySem.W.keepIn K (.ref a_q19)=true)
  (e_q6:PySem.W.nsIn K mainGlobals "_law_drawn" = some (some (.ref a_q6))) (l_q6:K.lookup a_q6=some ⟨oc_q6,od_q6,.func (PySem.W.fnOf "_law_drawn" "_law_drawn" (defArgs s_q6) (defBody s_q6) (defScope s_q6) .none kV_q6 dc_q6 pm_q6 an_q6 cd_q6 ct_q6),sl_q6⟩) (c_q6:PySem.W.codeIn K cd_q6 "_law_drawn" = true) (k_q6:PySem.W.keepIn K (.ref a_q6)=true)
  (e_q18:PySem.W.nsIn K mainGlobals "_law_spelt" = some (some (.ref a_q18))) (l_q18:K.lookup a_q18=some ⟨oc_q18,od_q18,.func (PySem.W.fnOf "_law_spelt" "_law_spelt" (defArgs s_q18) (defBody s_q18) (defScope s_q18) .none kV_q18 dc_q18 pm_q18 an_q18 cd_q18 ct_q18),sl_q18⟩) (c_q18:PySem.W.codeIn K cd_q18 "_law_spelt" = true) (k_q18:PySem.W.keepIn K (.ref a_q18)=true)
  (e_q14:PySem.W.nsIn K mainGlobals "_law_names" = some (some (.ref a_q14))) (l_q14:K.lookup a_q14=some ⟨oc_q14,od_q14,.func (PySem.W.fnOf "_law_names" "_law_names" (defArgs s_q14) (defBody s_q14) (defScope s_q14) .none kV_q14 dc_q14 pm_q14 an_q14 cd_q14 ct_q14),sl_q14⟩) (c_q14:PySem.W.codeIn K cd_q14 "_law_names" = true) (k_q14:PySem.W.keepIn K (.ref a_q14)=true)
  (e_q2:PySem.W.nsIn K mainGlobals "_law_bodies" = some (some (.ref a_q2))) (l_q2:K.lookup a_q2=some ⟨oc_q2,od_q2,.func (PySem.W.fnOf "_law_bodies" "_law_bodies" (defArgs s_q2) (defBody s_q2) (defScope s_q2) .none kV_q2 dc_q2 pm_q2 an_q2 cd_q2 ct_q2),sl_q2⟩) (c_q2:PySem.W.codeIn K cd_q2 "_law_bodies" = true) (k_q2:PySem.W.keepIn K (.ref a_q2)=true)
  (e_q7:PySem.W.nsIn K mainGlobals "_law_drawn_row" = some (some (.ref a_q7))) (l_q7:K.lookup a_q7=some ⟨oc_q7,od_q7,.func (PySem.W.fnOf "_law_drawn_row" "_law_drawn_row" (defArgs s_q7) (defBody s_q7) (defScope s_q7) .none kV_q7 dc_q7 pm_q7 an_q7 cd_q7 ct_q7),sl_q7⟩) (c_q7:PySem.W.codeIn K cd_q7 "_law_drawn_row" = true) (k_q7:PySem.W.keepIn K (.ref a_q7)=true)
  (e_q13:PySem.W.nsIn K mainGlobals "_law_labels" = some (some (.ref a_q13))) (l_q13:K.lookup a_q13=some ⟨oc_q13,od_q13,.func (PySem.W.fnOf "_law_labels" "_law_labels" (defArgs s_q13) (defBody s_q13) (defScope s_q13) .none kV_q13 dc_q13 pm_q13 an_q13 cd_q13 ct_q13),sl_q13⟩) (c_q13:PySem.W.codeIn K cd_q13 "_law_labels" = true) (k_q13:PySem.W.keepIn K (.ref a_q13)=true)
  (e_q17:PySem.W.nsIn K mainGlobals "_law_renumbered" = some (some (.ref a_q17))) (l_q17:K.lookup a_q17=some ⟨oc_q17,od_q17,.func (PySem.W.fnOf "_law_renumbered" "_law_renumbered" (defArgs s_q17) (defBody s_q17) (defScope s_q17) .none kV_q17 dc_q17 pm_q17 an_q17 cd_q17 ct_q17),sl_q17⟩) (c_q17:PySem.W.codeIn K cd_q17 "_law_renumbered" = true) (k_q17:PySem.W.keepIn K (.ref a_q17)=true)
  (e_q16:PySem.W.nsIn K mainGlobals "_law_program" = some (some (.ref a_q16))) (l_q16:K.lookup a_q16=some ⟨oc_q16,od_q16,.func (PySem.W.fnOf "_law_program" "_law_program" (defArgs s_q16) (defBody s_q16) (defScope s_q16) .none kV_q16 dc_q16 pm_q16 an_q16 cd_q16 ct_q16),sl_q16⟩) (c_q16:PySem.W.codeIn K cd_q16 "_law_program" = true) (k_q16:PySem.W.keepIn K (.ref a_q16)=true)
  (e_q3:PySem.W.nsIn K mainGlobals "_law_brings" = some (some (.ref a_q3))) (l_q3:K.lookup a_q3=some ⟨oc_q3,od_q3,.func (PySem.W.fnOf "_law_brings" "_law_brings" (defArgs s_q3) (defBody s_q3) (defScope s_q3) .none kV_q3 dc_q3 pm_q3 an_q3 cd_q3 ct_q3),sl_q3⟩) (c_q3:PySem.W.codeIn K cd_q3 "_law_brings" = true) (k_q3:PySem.W.keepIn K (.ref a_q3)=true)
  (e_q10:PySem.W.nsIn K mainGlobals "_law_into" = some (some (.ref a_q10))) (l_q10:K.lookup a_q10=some ⟨oc_q10,od_q10,.func (PySem.W.fnOf "_law_into" "_law_into" (defArgs s_q10) (defBody s_q10) (defScope s_q10) .none kV_q10 dc_q10 pm_q10 an_q10 cd_q10 ct_q10),sl_q10⟩) (c_q10:PySem.W.codeIn K cd_q10 "_law_into" = true) (k_q10:PySem.W.keepIn K (.ref a_q10)=true)
  (e_q1:PySem.W.nsIn K mainGlobals "_law_back" = some (some (.ref a_q1))) (l_q1:K.lookup a_q1=some ⟨oc_q1,od_q1,.func (PySem.W.fnOf "_law_back" "_law_back" (defArgs s_q1) (defBody s_q1) (defScope s_q1) .none kV_q1 dc_q1 pm_q1 an_q1 cd_q1 ct_q1),sl_q1⟩) (c_q1:PySem.W.codeIn K cd_q1 "_law_back" = true) (k_q1:PySem.W.keepIn K (.ref a_q1)=true)
  (e_q15:PySem.W.nsIn K mainGlobals "_law_over" = some (some (.ref a_q15))) (l_q15:K.lookup a_q15=some ⟨oc_q15,od_q15,.func (PySem.W.fnOf "_law_over" "_law_over" (defArgs s_q15) (defBody s_q15) (defScope s_q15) .none kV_q15 dc_q15 pm_q15 an_q15 cd_q15 ct_q15),sl_q15⟩) (c_q15:PySem.W.codeIn K cd_q15 "_law_over" = true) (k_q15:PySem.W.keepIn K (.ref a_q15)=true)
  (e_q12:PySem.W.nsIn K mainGlobals "_law_is_table" = some (some (.ref a_q12))) (l_q12:K.lookup a_q12=some ⟨oc_q12,od_q12,.func (PySem.W.fnOf "_law_is_table" "_law_is_table" (defArgs s_q12) (defBody s_q12) (defScope s_q12) .none kV_q12 dc_q12 pm_q12 an_q12 cd_q12 ct_q12),sl_q12⟩) (c_q12:PySem.W.codeIn K cd_q12 "_law_is_table" = true) (k_q12:PySem.W.keepIn K (.ref a_q12)=true)
  (e_q8:PySem.W.nsIn K mainGlobals "_law_ends" = some (some (.ref a_q8))) (l_q8:K.lookup a_q8=some ⟨oc_q8,od_q8,.func (PySem.W.fnOf "_law_ends" "_law_ends" (defArgs s_q8) (defBody s_q8) (defScope s_q8) .none kV_q8 dc_q8 pm_q8 an_q8 cd_q8 ct_q8),sl_q8⟩) (c_q8:PySem.W.codeIn K cd_q8 "_law_ends" = true) (k_q8:PySem.W.keepIn K (.ref a_q8)=true)
  (e_q11:PySem.W.nsIn K mainGlobals "_law_is_call" = some (some (.ref a_q11))) (l_q11:K.lookup a_q11=some ⟨oc_q11,od_q11,.func (PySem.W.fnOf "_law_is_call" "_law_is_call" (defArgs s_q11) (defBody s_q11) (defScope s_q11) .none kV_q11 dc_q11 pm_q11 an_q11 cd_q11 ct_q11),sl_q11⟩) (c_q11:PySem.W.codeIn K cd_q11 "_law_is_call" = true) (k_q11:PySem.W.keepIn K (.ref a_q11)=true)
  (e_q0:PySem.W.nsIn K mainGlobals "_law_are_edges" = some (some (.ref a_q0))) (l_q0:K.lookup a_q0=some ⟨oc_q0,od_q0,.func (PySem.W.fnOf "_law_are_edges" "_law_are_edges" (defArgs s_q0) (defBody s_q0) (defScope s_q0) .none kV_q0 dc_q0 pm_q0 an_q0 cd_q0 ct_q0),sl_q0⟩) (c_q0:PySem.W.codeIn K cd_q0 "_law_are_edges" = true) (k_q0:PySem.W.keepIn K (.ref a_q0)=true)
  (e_q9:PySem.W.nsIn K mainGlobals "_law_good" = some (some (.ref a_q9))) (l_q9:K.lookup a_q9=some ⟨oc_q9,od_q9,.func (PySem.W.fnOf "_law_good" "_law_good" (defArgs s_q9) (defBody s_q9) (defScope s_q9) .none kV_q9 dc_q9 pm_q9 an_q9 cd_q9 ct_q9),sl_q9⟩) (c_q9:PySem.W.codeIn K cd_q9 "_law_good" = true) (k_q9:PySem.W.keepIn K (.ref a_q9)=true)
  (e_q20:PySem.W.nsIn K mainGlobals "_law_widened" = some (some (.ref a_q20))) (l_q20:K.lookup a_q20=some ⟨oc_q20,od_q20,.func (PySem.W.fnOf "_law_widened" "_law_widened" (defArgs s_q20) (defBody s_q20) (defScope s_q20) .none kV_q20 dc_q20 pm_q20 an_q20 cd_q20 ct_q20),sl_q20⟩) (c_q20:PySem.W.codeIn K cd_q20 "_law_widened" = true) (k_q20:PySem.W.keepIn K (.ref a_q20)=true)
  (e_q31:PySem.W.nsIn K mainGlobals "law" = some (some (.ref a_q31))) (l_q31:K.lookup a_q31=some ⟨oc_q31,od_q31,.func (PySem.W.fnOf "law" "law" (defArgs s_q31) (defBody s_q31) (defScope s_q31) .none kV_q31 dc_q31 pm_q31 an_q31 cd_q31 ct_q31),sl_q31⟩) (c_q31:PySem.W.codeIn K cd_q31 "law" = true) (k_q31:PySem.W.keepIn K (.ref a_q31)=true)
  (z_all:PySem.W.nsIn K mainGlobals "all" = some none)
  (z_bool:PySem.W.nsIn K mainGlobals "bool" = some none)
  (z_enumerate:PySem.W.nsIn K mainGlobals "enumerate" = some none)
  (z_int:PySem.W.nsIn K mainGlobals "int" = some none)
  (z_isinstance:PySem.W.nsIn K mainGlobals "isinstance" = some none)
  (z_len:PySem.W.nsIn K mainGlobals "len" = some none)
  (z_list:PySem.W.nsIn K mainGlobals "list" = some none)
  (z_min:PySem.W.nsIn K mainGlobals "min" = some none)
  (z_range:PySem.W.nsIn K mainGlobals "range" = some none)
  (z_tuple:PySem.W.nsIn K mainGlobals "tuple" = some none)
  (z_zip:PySem.W.nsIn K mainGlobals "zip" = some none)
  {tk_MOST_EDGES:Tok} (y_MOST_EDGES:PySem.W.nsIn K mainGlobals "MOST_EDGES" = some (some (.int 24 tk_MOST_EDGES)))
  {tk_MOST_FACTS:Tok} (y_MOST_FACTS:PySem.W.nsIn K mainGlobals "MOST_FACTS" = some (some (.int 6 tk_MOST_FACTS)))
  {tk_MOST_FUNCTIONS:Tok} (y_MOST_FUNCTIONS:PySem.W.nsIn K mainGlobals "MOST_FUNCTIONS" = some (some (.int 6 tk_MOST_FUNCTIONS)))
  {tk_MOST_PLACES:Tok} (y_MOST_PLACES:PySem.W.nsIn K mainGlobals "MOST_PLACES" = some (some (.int 10 tk_MOST_PLACES)))
  : ∃ fd:FuncData,(∀ (s:Shared) (v:Value),BindsTo s fd ⟨[v],[]⟩ [("_law_script",v)])∧∀ base:Heap,K.In base→base.Ns mainGlobals mg→FnOk l.prog w K mg base CX0 7 fa fd ["_law_script"] (spD K 1 S_q31):=by
 have e:=hfa.symm.trans (PySem.W.mg_of X G e_q31)
 cases e
 have T:Txt l.prog w K mg:=⟨PySem.W.mg_none_of X G z_all,PySem.W.mg_none_of X G z_bool,PySem.W.mg_none_of X G z_enumerate,PySem.W.mg_none_of X G z_int,PySem.W.mg_none_of X G z_isinstance,PySem.W.mg_none_of X G z_len,PySem.W.mg_none_of X G z_list,PySem.W.mg_none_of X G z_min,PySem.W.mg_none_of X G z_range,PySem.W.mg_none_of X G z_tuple,PySem.W.mg_none_of X G z_zip,⟨_,PySem.W.mg_of X G y_MOST_EDGES⟩,⟨_,PySem.W.mg_of X G y_MOST_FACTS⟩,⟨_,PySem.W.mg_of X G y_MOST_FUNCTIONS⟩,⟨_,PySem.W.mg_of X G y_MOST_PLACES⟩⟩
 have F_q34:=fun_mk (st:=s_q34) l_q34 c_q34 k_q34
 have F_q30:=fun_mk (st:=s_q30) l_q30 c_q30 k_q30
 have F_q28:=fun_mk (st:=s_q28) l_q28 c_q28 k_q28
 have F_q23:=fun_mk (st:=s_q23) l_q23 c_q23 k_q23
 have F_q29:=fun_mk (st:=s_q29) l_q29 c_q29 k_q29
 have F_q33:=fun_mk (st:=s_q33) l_q33 c_q33 k_q33
 have F_q32:=fun_mk (st:=s_q32) l_q32 c_q32 k_q32
 have F_q35:=fun_mk (st:=s_q35) l_q35 c_q35 k_q35
 have F_q21:=fun_mk (st:=s_q21) l_q21 c_q21 k_q21
 have F_q37:=fun_mk (st:=s_q37) l_q37 c_q37 k_q37
 have F_q26:=fun_mk (st:=s_q26) l_q26 c_q26 k_q26
 have F_q25:=fun_mk (st:=s_q25) l_q25 c_q25 k_q25
 have F_q24:=fun_mk (st:=s_q24) l_q24 c_q24 k_q24
 have F_q27:=fun_mk (st:=s_q27) l_q27 c_q27 k_q27
 have F_q22:=fun_mk (st:=s_q22) l_q22 c_q22 k_q22
 have F_q36:=fun_mk (st:=s_q36) l_q36 c_q36 k_q36
 have F_q4:=fun_mk (st:=s_q4) l_q4 c_q4 k_q4
 have F_q5:=fun_mk (st:=s_q5) l_q5 c_q5 k_q5
 have F_q19:=fun_mk (st:=s_q19) l_q19 c_q19 k_q19
 have F_q6:=fun_mk (st:=s_q6) l_q6 c_q6 k_q6
 have F_q18:=fun_mk (st:=s_q18) l_q18 c_q18 k_q18
 have F_q14:=fun_mk (st:=s_q14) l_q14 c_q14 k_q14
 have F_q2:=fun_mk (st:=s_q2) l_q2 c_q2 k_q2
 have F_q7:=fun_mk (st:=s_q7) l_q7 c_q7 k_q7
 have F_q13:=fun_mk (st:=s_q13) l_q13 c_q13 k_q13
 have F_q17:=fun_mk (st:=s_q17) l_q17 c_q17 k_q17
 have F_q16:=fun_mk (st:=s_q16) l_q16 c_q16 k_q16
 have F_q3:=fun_mk (st:=s_q3) l_q3 c_q3 k_q3
 have F_q10:=fun_mk (st:=s_q10) l_q10 c_q10 k_q10
 have F_q1:=fun_mk (st:=s_q1) l_q1 c_q1 k_q1
 have F_q15:=fun_mk (st:=s_q15) l_q15 c_q15 k_q15
 have F_q12:=fun_mk (st:=s_q12) l_q12 c_q12 k_q12
 have F_q8:=fun_mk (st:=s_q8) l_q8 c_q8 k_q8
 have F_q11:=fun_mk (st:=s_q11) l_q11 c_q11 k_q11
 have F_q0:=fun_mk (st:=s_q0) l_q0 c_q0 k_q0
 have F_q9:=fun_mk (st:=s_q9) l_q9 c_q9 k_q9
 have F_q20:=fun_mk (st:=s_q20) l_q20 c_q20 k_q20
 have F_q31:=fun_mk (st:=s_q31) l_q31 c_q31 k_q31
 have b_q34:Binds K (PySem.W.fnOf "same" "same" (defArgs s_q34) (defBody s_q34) (defScope s_q34) .none kV_q34 dc_q34 pm_q34 an_q34 cd_q34 ct_q34) ["n"] []:=.all fun us hl=>ln1 hl fun _=>rfl
 have b_q30:Binds K (PySem.W.fnOf "gathered" "gathered" (defArgs s_q30) (defBody s_q30) (defScope s_q30) .none kV_q30 dc_q30 pm_q30 an_q30 cd_q30 ct_q30) ["n","pairs"] []:=.all fun us hl=>ln2 hl fun _ _=>rfl
 have b_q28:Binds K (PySem.W.fnOf "either" "either" (defArgs s_q28) (defBody s_q28) (defScope s_q28) .none kV_q28 dc_q28 pm_q28 an_q28 cd_q28 ct_q28) ["one","other"] []:=.all fun us hl=>ln2 hl fun _ _=>rfl
 have b_q23:Binds K (PySem.W.fnOf "chart_of" "chart_of" (defArgs s_q23) (defBody s_q23) (defScope s_q23) .none kV_q23 dc_q23 pm_q23 an_q23 cd_q23 ct_q23) ["program"] []:=.all fun us hl=>ln1 hl fun _=>rfl
 have b_q29:Binds K (PySem.W.fnOf "facts_of" "facts_of" (defArgs s_q29) (defBody s_q29) (defScope s_q29) .none kV_q29 dc_q29 pm_q29 an_q29 cd_q29 ct_q29) ["function"] []:=.all fun us hl=>ln1 hl fun _=>rfl
 have b_q33:Binds K (PySem.W.fnOf "row_edges" "row_edges" (defArgs s_q33) (defBody s_q33) (defScope s_q33) .none kV_q33 dc_q33 pm_q33 an_q33 cd_q33 ct_q33) ["program","f","p","row"] []:=.all fun us hl=>ln4 hl fun _ _ _ _=>rfl
 have b_q32:Binds K (PySem.W.fnOf "places_behind" "places_behind" (defArgs s_q32) (defBody s_q32) (defScope s_q32) .none kV_q32 dc_q32 pm_q32 an_q32 cd_q32 ct_q32) ["p","row","exit_place"] []:=.all fun us hl=>ln3 hl fun _ _ _=>rfl
 have b_q35:Binds K (PySem.W.fnOf "step_table" "step_table" (defArgs s_q35) (defBody s_q35) (defScope s_q35) .none kV_q35 dc_q35 pm_q35 an_q35 cd_q35 ct_q35) ["n","row"] []:=.all fun us hl=>ln2 hl fun _ _=>rfl
 have b_q21:Binds K (PySem.W.fnOf "call_edge" "call_edge" (defArgs s_q21) (defBody s_q21) (defScope s_q21) .none kV_q21 dc_q21 pm_q21 an_q21 cd_q21 ct_q21) ["program","f","p","row"] []:=.all fun us hl=>ln4 hl fun _ _ _ _=>rfl
 have b_q37:Binds K (PySem.W.fnOf "without" "without" (defArgs s_q37) (defBody s_q37) (defScope s_q37) .none kV_q37 dc_q37 pm_q37 an_q37 cd_q37 ct_q37) ["n","facts"] []:=.all fun us hl=>ln2 hl fun _ _=>rfl
 have b_q26:Binds K (PySem.W.fnOf "checked" "checked" (defArgs s_q26) (defBody s_q26) (defScope s_q26) .none kV_q26 dc_q26 pm_q26 an_q26 cd_q26 ct_q26) ["chart"] []:=.all fun us hl=>ln1 hl fun _=>rfl
 have b_q25:Binds K (PySem.W.fnOf "check_functions" "check_functions" (defArgs s_q25) (defBody s_q25) (defScope s_q25) .none kV_q25 dc_q25 pm_q25 an_q25 cd_q25 ct_q25) ["chart"] []:=.all fun us hl=>ln1 hl fun _=>rfl
 have b_q24:Binds K (PySem.W.fnOf "check_edges" "check_edges" (defArgs s_q24) (defBody s_q24) (defScope s_q24) .none kV_q24 dc_q24 pm_q24 an_q24 cd_q24 ct_q24) ["chart"] []:=.all fun us hl=>ln1 hl fun _=>rfl
 have b_q27:Binds K (PySem.W.fnOf "edge_fits" "edge_fits" (defArgs s_q27) (defBody s_q27) (defScope s_q27) .none kV_q27 dc_q27 pm_q27 an_q27 cd_q27 ct_q27) ["chart","function","edge"] []:=.all fun us hl=>ln3 hl fun _ _ _=>rfl
 have b_q22:Binds K (PySem.W.fnOf "call_fits" "call_fits" (defArgs s_q22) (defBody s_q22) (defScope s_q22) .none kV_q22 dc_q22 pm_q22 an_q22 cd_q22 ct_q22) ["chart","facts","edge"] []:=.all fun us hl=>ln3 hl fun _ _ _=>rfl
 have b_q36:Binds K (PySem.W.fnOf "table_fits" "table_fits" (defArgs s_q36) (defBody s_q36) (defScope s_q36) .none kV_q36 dc_q36 pm_q36 an_q36 cd_q36 ct_q36) ["table","n","to"] []:=.all fun us hl=>ln3 hl fun _ _ _=>rfl
 have b_q4:Binds K (PySem.W.fnOf "_law_cell_at" "_law_cell_at" (defArgs s_q4) (defBody s_q4) (defScope s_q4) .none kV_q4 dc_q4 pm_q4 an_q4 cd_q4 ct_q4) ["_law_script","_law_k"] []:=.all fun us hl=>ln2 hl fun _ _=>rfl
 have b_q5:Binds K (PySem.W.fnOf "_law_cells" "_law_cells" (defArgs s_q5) (defBody s_q5) (defScope s_q5) .none kV_q5 dc_q5 pm_q5 an_q5 cd_q5 ct_q5) ["_law_script","_law_first","_law_most"] []:=.all fun us hl=>ln3 hl fun _ _ _=>rfl
 have b_q19:Binds K (PySem.W.fnOf "_law_stream" "_law_stream" (defArgs s_q19) (defBody s_q19) (defScope s_q19) .none kV_q19 dc_q19 pm_q19 an_q19 cd_q19 ct_q19) ["_law_cell","_law_many"] []:=.all fun us hl=>ln2 hl fun _ _=>rfl
 have b_q6:Binds K (PySem.W.fnOf "_law_drawn" "_law_drawn" (defArgs s_q6) (defBody s_q6) (defScope s_q6) .none kV_q6 dc_q6 pm_q6 an_q6 cd_q6 ct_q6) ["_law_cell","_law_many","_law_free"] []:=.all fun us hl=>ln3 hl fun _ _ _=>rfl
 have b_q18:Binds K (PySem.W.fnOf "_law_spelt" "_law_spelt" (defArgs s_q18) (defBody s_q18) (defScope s_q18) .none kV_q18 dc_q18 pm_q18 an_q18 cd_q18 ct_q18) ["_law_cell","_law_many","_law_free"] []:=.all fun us hl=>ln3 hl fun _ _ _=>rfl
 have b_q14:Binds K (PySem.W.fnOf "_law_names" "_law_names" (defArgs s_q14) (defBody s_q14) (defScope s_q14) .none kV_q14 dc_q14 pm_q14 an_q14 cd_q14 ct_q14) ["_law_cell","_law_many","_law_free"] []:=.all fun us hl=>ln3 hl fun _ _ _=>rfl
 have b_q2:Binds K (PySem.W.fnOf "_law_bodies" "_law_bodies" (defArgs s_q2) (defBody s_q2) (defScope s_q2) .none kV_q2 dc_q2 pm_q2 an_q2 cd_q2 ct_q2) ["_law_cells_here","_law_sizes"] []:=.all fun us hl=>ln2 hl fun _ _=>rfl
 have b_q7:Binds K (PySem.W.fnOf "_law_drawn_row" "_law_drawn_row" (defArgs s_q7) (defBody s_q7) (defScope s_q7) .none kV_q7 dc_q7 pm_q7 an_q7 cd_q7 ct_q7) ["_law_cell","_law_gives","_law_many","_law_labels_here","_law_free"] []:=.all fun us hl=>ln5 hl fun _ _ _ _ _=>rfl
 have b_q13:Binds K (PySem.W.fnOf "_law_labels" "_law_labels" (defArgs s_q13) (defBody s_q13) (defScope s_q13) .none kV_q13 dc_q13 pm_q13 an_q13 cd_q13 ct_q13) ["_law_row"] []:=.all fun us hl=>ln1 hl fun _=>rfl
 have b_q17:Binds K (PySem.W.fnOf "_law_renumbered" "_law_renumbered" (defArgs s_q17) (defBody s_q17) (defScope s_q17) .none kV_q17 dc_q17 pm_q17 an_q17 cd_q17 ct_q17) ["_law_row","_law_order"] []:=.all fun us hl=>ln2 hl fun _ _=>rfl
 have b_q16:Binds K (PySem.W.fnOf "_law_program" "_law_program" (defArgs s_q16) (defBody s_q16) (defScope s_q16) .none kV_q16 dc_q16 pm_q16 an_q16 cd_q16 ct_q16) ["_law_script","_law_words","_law_names_here","_law_sizes"] []:=.all fun us hl=>ln4 hl fun _ _ _ _=>rfl
 have b_q3:Binds K (PySem.W.fnOf "_law_brings" "_law_brings" (defArgs s_q3) (defBody s_q3) (defScope s_q3) .none kV_q3 dc_q3 pm_q3 an_q3 cd_q3 ct_q3) ["_law_row","_law_one","_law_other","_law_many"] []:=.all fun us hl=>ln4 hl fun _ _ _ _=>rfl
 have b_q10:Binds K (PySem.W.fnOf "_law_into" "_law_into" (defArgs s_q10) (defBody s_q10) (defScope s_q10) .none kV_q10 dc_q10 pm_q10 an_q10 cd_q10 ct_q10) ["_law_row","_law_one","_law_other"] []:=.all fun us hl=>ln3 hl fun _ _ _=>rfl
 have b_q1:Binds K (PySem.W.fnOf "_law_back" "_law_back" (defArgs s_q1) (defBody s_q1) (defScope s_q1) .none kV_q1 dc_q1 pm_q1 an_q1 cd_q1 ct_q1) ["_law_row","_law_one","_law_other","_law_theirs"] []:=.all fun us hl=>ln4 hl fun _ _ _ _=>rfl
 have b_q15:Binds K (PySem.W.fnOf "_law_over" "_law_over" (defArgs s_q15) (defBody s_q15) (defScope s_q15) .none kV_q15 dc_q15 pm_q15 an_q15 cd_q15 ct_q15) ["_law_row","_law_one","_law_other"] []:=.all fun us hl=>ln3 hl fun _ _ _=>rfl
 have b_q12:Binds K (PySem.W.fnOf "_law_is_table" "_law_is_table" (defArgs s_q12) (defBody s_q12) (defScope s_q12) .none kV_q12 dc_q12 pm_q12 an_q12 cd_q12 ct_q12) ["_law_table","_law_truths"] []:=.all fun us hl=>ln2 hl fun _ _=>rfl
 have b_q8:Binds K (PySem.W.fnOf "_law_ends" "_law_ends" (defArgs s_q8) (defBody s_q8) (defScope s_q8) .none kV_q8 dc_q8 pm_q8 an_q8 cd_q8 ct_q8) ["_law_row","_law_place","_law_rows"] []:=.all fun us hl=>ln3 hl fun _ _ _=>rfl
 have b_q11:Binds K (PySem.W.fnOf "_law_is_call" "_law_is_call" (defArgs s_q11) (defBody s_q11) (defScope s_q11) .none kV_q11 dc_q11 pm_q11 an_q11 cd_q11 ct_q11) ["_law_edge","_law_row","_law_place","_law_many","_law_theirs"] []:=.all fun us hl=>ln5 hl fun _ _ _ _ _=>rfl
 have b_q0:Binds K (PySem.W.fnOf "_law_are_edges" "_law_are_edges" (defArgs s_q0) (defBody s_q0) (defScope s_q0) .none kV_q0 dc_q0 pm_q0 an_q0 cd_q0 ct_q0) ["_law_edges","_law_program_here","_law_f"] []:=.all fun us hl=>ln3 hl fun _ _ _=>rfl
 have b_q9:Binds K (PySem.W.fnOf "_law_good" "_law_good" (defArgs s_q9) (defBody s_q9) (defScope s_q9) .none kV_q9 dc_q9 pm_q9 an_q9 cd_q9 ct_q9) ["_law_chart","_law_program_here"] []:=.all fun us hl=>ln2 hl fun _ _=>rfl
 have b_q20:Binds K (PySem.W.fnOf "_law_widened" "_law_widened" (defArgs s_q20) (defBody s_q20) (defScope s_q20) .none kV_q20 dc_q20 pm_q20 an_q20 cd_q20 ct_q20) ["_law_program_here","_law_names_here","_law_many"] []:=.all fun us hl=>ln3 hl fun _ _ _=>rfl
 refine ⟨PySem.W.fnOf "law" "law" (defArgs s_q31) (defBody s_q31) (defScope s_q31) .none kV_q31 dc_q31 pm_q31 an_q31 cd_q31 ct_q31,fun s v=>.of_eq rfl,fun base _ _=>?_⟩
 have C_q34:Cal l.prog w K mg base 1 "same" ["n"] (spD K 1 S_q34):=⟨a_q34,_,ok_q34 F_q34 T ,PySem.W.mg_of X G e_q34,k_q34,b_q34⟩
 have C_q30:Cal l.prog w K mg base 1 "gathered" ["n","pairs"] (spD K 2 S_q30):=⟨a_q30,_,ok_q30 F_q30 T ,PySem.W.mg_of X G e_q30,k_q30,b_q30⟩
 have C_q28:Cal l.prog w K mg base 1 "either" ["one","other"] (spD K 2 S_q28):=⟨a_q28,_,ok_q28 F_q28 T ,PySem.W.mg_of X G e_q28,k_q28,b_q28⟩
 have C_q29:Cal l.prog w K mg base 1 "facts_of" ["function"] (spD K 1 S_q29):=⟨a_q29,_,ok_q29 F_q29 T ,PySem.W.mg_of X G e_q29,k_q29,b_q29⟩
 have C_q32:Cal l.prog w K mg base 1 "places_behind" ["p","row","exit_place"] (spD K 3 S_q32):=⟨a_q32,_,ok_q32 F_q32 T ,PySem.W.mg_of X G e_q32,k_q32,b_q32⟩
 have C_q25:Cal l.prog w K mg base 1 "check_functions" ["chart"] (spD K 1 S_q25):=⟨a_q25,_,ok_q25 F_q25 T ,PySem.W.mg_of X G e_q25,k_q25,b_q25⟩
 have C_q36:Cal l.prog w K mg base 1 "table_fits" ["table","n","to"] (spD K 3 S_q36):=⟨a_q36,_,ok_q36 F_q36 T ,PySem.W.mg_of X G e_q36,k_q36,b_q36⟩
 have C_q4:Cal l.prog w K mg base 1 "_law_cell_at" ["_law_script","_law_k"] (spD K 2 S_q4):=⟨a_q4,_,ok_q4 F_q4 T ,PySem.W.mg_of X G e_q4,k_q4,b_q4⟩
 have C_q19:Cal l.prog w K mg base 1 "_law_stream" ["_law_cell","_law_many"] (spD K 2 S_q19):=⟨a_q19,_,ok_q19 F_q19 T ,PySem.W.mg_of X G e_q19,k_q19,b_q19⟩
 have C_q37:Cal l.prog w K mg base 2 "without" ["n","facts"] (spD K 2 S_q37):=⟨a_q37,_,ok_q37 F_q37 T C_q30,PySem.W.mg_of X G e_q37,k_q37,b_q37⟩
 have C_q22:Cal l.prog w K mg base 2 "call_fits" ["chart","facts","edge"] (spD K 3 S_q22):=⟨a_q22,_,ok_q22 F_q22 T C_q36,PySem.W.mg_of X G e_q22,k_q22,b_q22⟩
 have C_q35:Cal l.prog w K mg base 3 "step_table" ["n","row"] (spD K 2 S_q35):=⟨a_q35,_,ok_q35 F_q35 T C_q34 C_q30 C_q28 C_q37,PySem.W.mg_of X G e_q35,k_q35,b_q35⟩
 have C_q21:Cal l.prog w K mg base 3 "call_edge" ["program","f","p","row"] (spD K 4 S_q21):=⟨a_q21,_,ok_q21 F_q21 T C_q29 C_q30 C_q37,PySem.W.mg_of X G e_q21,k_q21,b_q21⟩
 have C_q27:Cal l.prog w K mg base 3 "edge_fits" ["chart","function","edge"] (spD K 3 S_q27):=⟨a_q27,_,ok_q27 F_q27 T C_q36 C_q22,PySem.W.mg_of X G e_q27,k_q27,b_q27⟩
 have C_q33:Cal l.prog w K mg base 4 "row_edges" ["program","f","p","row"] (spD K 4 S_q33):=⟨a_q33,_,ok_q33 F_q33 T C_q21 C_q29 C_q35 C_q32,PySem.W.mg_of X G e_q33,k_q33,b_q33⟩
 have C_q24:Cal l.prog w K mg base 4 "check_edges" ["chart"] (spD K 1 S_q24):=⟨a_q24,_,ok_q24 F_q24 T C_q27,PySem.W.mg_of X G e_q24,k_q24,b_q24⟩
 have C_q26:Cal l.prog w K mg base 5 "checked" ["chart"] (spD K 1 S_q26):=⟨a_q26,_,ok_q26 F_q26 T C_q25 C_q24,PySem.W.mg_of X G e_q26,k_q26,b_q26⟩
 have C_q13:Cal l.prog w K mg base 1 "_law_labels" ["_law_row"] (spD K 1 S_q13):=⟨a_q13,_,ok_q13 F_q13 T ,PySem.W.mg_of X G e_q13,k_q13,b_q13⟩
 have C_q3:Cal l.prog w K mg base 1 "_law_brings" ["_law_row","_law_one","_law_other","_law_many"] (spD K 4 S_q3):=⟨a_q3,_,ok_q3 F_q3 T ,PySem.W.mg_of X G e_q3,k_q3,b_q3⟩
 have C_q10:Cal l.prog w K mg base 1 "_law_into" ["_law_row","_law_one","_law_other"] (spD K 3 S_q10):=⟨a_q10,_,ok_q10 F_q10 T ,PySem.W.mg_of X G e_q10,k_q10,b_q10⟩
 have C_q1:Cal l.prog w K mg base 1 "_law_back" ["_law_row","_law_one","_law_other","_law_theirs"] (spD K 4 S_q1):=⟨a_q1,_,ok_q1 F_q1 T ,PySem.W.mg_of X G e_q1,k_q1,b_q1⟩
 have C_q15:Cal l.prog w K mg base 1 "_law_over" ["_law_row","_law_one","_law_other"] (spD K 3 S_q15):=⟨a_q15,_,ok_q15 F_q15 T ,PySem.W.mg_of X G e_q15,k_q15,b_q15⟩
 have C_q8:Cal l.prog w K mg base 1 "_law_ends" ["_law_row","_law_place","_law_rows"] (spD K 3 S_q8):=⟨a_q8,_,ok_q8 F_q8 T ,PySem.W.mg_of X G e_q8,k_q8,b_q8⟩
 have C_q5:Cal l.prog w K mg base 2 "_law_cells" ["_law_script","_law_first","_law_most"] (spD K 3 S_q5):=⟨a_q5,_,ok_q5 F_q5 T C_q4,PySem.W.mg_of X G e_q5,k_q5,b_q5⟩
 have C_q23:Cal l.prog w K mg base 5 "chart_of" ["program"] (spD K 1 S_q23):=⟨a_q23,_,ok_q23 F_q23 T C_q33 C_q29,PySem.W.mg_of X G e_q23,k_q23,b_q23⟩
 have C_q2:Cal l.prog w K mg base 1 "_law_bodies" ["_law_cells_here","_law_sizes"] (spD K 2 S_q2):=⟨a_q2,_,ok_q2 F_q2 T ,PySem.W.mg_of X G e_q2,k_q2,b_q2⟩
 have C_q17:Cal l.prog w K mg base 1 "_law_renumbered" ["_law_row","_law_order"] (spD K 2 S_q17):=⟨a_q17,_,ok_q17 F_q17 T ,PySem.W.mg_of X G e_q17,k_q17,b_q17⟩
 have C_q12:Cal l.prog w K mg base 1 "_law_is_table" ["_law_table","_law_truths"] (spD K 2 S_q12):=⟨a_q12,_,ok_q12 F_q12 T ,PySem.W.mg_of X G e_q12,k_q12,b_q12⟩
 have C_q20:Cal l.prog w K mg base 1 "_law_widened" ["_law_program_here","_law_names_here","_law_many"] (spD K 3 S_q20):=⟨a_q20,_,ok_q20 F_q20 T ,PySem.W.mg_of X G e_q20,k_q20,b_q20⟩
 have C_q6:Cal l.prog w K mg base 2 "_law_drawn" ["_law_cell","_law_many","_law_free"] (spD K 3 S_q6):=⟨a_q6,_,ok_q6 F_q6 T C_q19,PySem.W.mg_of X G e_q6,k_q6,b_q6⟩
 have C_q7:Cal l.prog w K mg base 3 "_law_drawn_row" ["_law_cell","_law_gives","_law_many","_law_labels_here","_law_free"] (spD K 5 S_q7):=⟨a_q7,_,ok_q7 F_q7 T C_q6,PySem.W.mg_of X G e_q7,k_q7,b_q7⟩
 have C_q11:Cal l.prog w K mg base 2 "_law_is_call" ["_law_edge","_law_row","_law_place","_law_many","_law_theirs"] (spD K 5 S_q11):=⟨a_q11,_,ok_q11 F_q11 T C_q10 C_q1 C_q15 C_q12,PySem.W.mg_of X G e_q11,k_q11,b_q11⟩
 have C_q0:Cal l.prog w K mg base 3 "_law_are_edges" ["_law_edges","_law_program_here","_law_f"] (spD K 3 S_q0):=⟨a_q0,_,ok_q0 F_q0 T C_q3 C_q8 C_q11 C_q12,PySem.W.mg_of X G e_q0,k_q0,b_q0⟩
 have C_q16:Cal l.prog w K mg base 4 "_law_program" ["_law_script","_law_words","_law_names_here","_law_sizes"] (spD K 4 S_q16):=⟨a_q16,_,ok_q16 F_q16 T C_q4 C_q5 C_q2 C_q7 C_q13 C_q17,PySem.W.mg_of X G e_q16,k_q16,b_q16⟩
 have C_q9:Cal l.prog w K mg base 6 "_law_good" ["_law_chart","_law_program_here"] (spD K 2 S_q9):=⟨a_q9,_,ok_q9 F_q9 T C_q0 C_q26,PySem.W.mg_of X G e_q9,k_q9,b_q9⟩
 have C_q18:Cal l.prog w K mg base 1 "_law_spelt" ["_law_cell","_law_many","_law_free"] (spD K 3 S_q18):=⟨a_q18,_,ok_q18 F_q18 T ,PySem.W.mg_of X G e_q18,k_q18,b_q18⟩
 have C_q14:Cal l.prog w K mg base 2 "_law_names" ["_law_cell","_law_many","_law_free"] (spD K 3 S_q14):=⟨a_q14,_,ok_q14 F_q14 T C_q18,PySem.W.mg_of X G e_q14,k_q14,b_q14⟩
 exact ok_q31 F_q31 T C_q4 C_q14 C_q16 C_q20 C_q23 C_q9
end K64
namespace PySem.W
open PySem PySem.Calls PyProof.Rows
noncomputable section
def topT(p:Program)(w:World)(n:Nat)(ann:Option Value):Nat→SharedT→Thread→Option SharedT
 |0,_,_=>none
 |m + 1,s,t=>match through t with
  |true=>some s
  |false=>match Fast.tw6613529449190102663 n ann t with
   |false=>none
   |true=>match Fast.tw10156331382660048174 (Fast.tw11892475500146522536 Fast.tw14364793385576792824) p w s t with
    |none=>none
    |some (s',t')=>topT p w n ann m s' t'
 termination_by structural m=>m
theorem topT_of{p:Program}{w:World}{n:Nat}{ann:Option Value}:∀ {m:Nat} {s s':SharedT} {t:Thread},topT p w n ann m s t=some s'→topRun treeTable p w n ann m s.abs t=some s'.abs
 |0,_,_,_,h=>nomatch h
 |m + 1,s,s',t,h=>by
  unfold topT at h
  unfold topRun
  cases ht:through t with
  |true =>
   rw [ht] at h
   exact congrArg (fun x=>some (SharedT.abs x)) (Option.some.inj h)
  |false =>
   rw [ht,← Fast.te6613529449190102663,← Fast.te10156331382660048174,← Fast.te11892475500146522536,← Fast.te14364793385576792824] at h
   cases ho:stepOk n ann t with
   |false=>rw [ho] at h;cases h
   |true =>
    rw [ho] at h
    cases hs:stepT (denote treeTable) p w s t with
    |none=>rw [hs] at h;cases h
    |some x =>
     obtain ⟨s₂,t₂⟩:=x
     rw [hs] at h
     show (match step (denote treeTable) p w s.abs t with | .go a b=>topRun treeTable p w n ann m a b | .halt _ _=>none)=_
     rw [stepT_spec hs]
     exact topT_of h
def bootB(P:Params):BT :=
 .node (boot_o_0 P)
  (.node (boot_o_1 P) (.node (boot_o_3 P) (.node (boot_o_7 P) .nil .nil) .nil) (.node (boot_o_5 P) (.node (boot_o_9 P) .nil .nil) .nil))
  (.node (boot_o_2 P) (.node (boot_o_4 P) (.node (boot_o_8 P) .nil .nil) .nil) (.node (boot_o_6 P) (.node (boot_o_10 P) .nil .nil) .nil))
def bootT(P:Params)(os:OsState):SharedT:=⟨bootB P,11,(boot_heap P).life,Array.mk [],boot_drawn,boot_toks,os⟩
theorem bootT_abs(P:Params)(os:OsState):(bootT P os).abs=⟨boot_heap P,Array.mk [],boot_drawn,boot_toks,os⟩:=by kernel_rfl
theorem boot_size(P:Params):((boot_heap P).isNs mainGlobals,(boot_heap P).objs.size,(boot_heap P).nsMap mainGlobals "__annotations__")=(true,11,some (.ref 6)):=by kernel_rfl
def HL{α:Type}(p q:Program)(loose:List Str)(Xt:Shared→Bool)(Yf:Shared→α)(Ya:World→α)(M:Nat)(w:World):Prop :=
 ∀ os:OsState,(topT p w 11 (some (.ref 6)) M (bootT w.params os) (topStub p)).map (fun s =>
  ((staticsOk (Fast.tw5923862056798008813 p.main.body) (boot_heap w.params) s.abs.heap && namesBound p s.abs.heap && gensDone s.abs && laidKept (boot_heap w.params) s.abs.heap),
   Fast.tw4187177175401517315 q loose (Fast.tw5923862056798008813 p.main.body) Xt true s.abs,Yf s.abs))=some (true,openGood q loose,Ya w)
theorem left_by{p q:Program}{loose:List Str}{Xt:Shared→Bool}{α:Type}{Yf:Shared→α}{Ya:World→α}{N:Nat}
  (e:opening p=plainProg p.main.scope.names) (f:∀ s,fenceModules? p s=some s) (le:Nat.ble 600 N=true) (h:∀ w,HL p q loose Xt Yf Ya N w) :
  LeftO p q loose Xt Yf Ya N:=by
 intro w
 obtain ⟨⟨hp,gs,d,k,os⟩,e1,e2⟩:=Option.map_eq_some_iff.mp (boot_open e le f w)
 obtain ⟨rfl,rfl,rfl,rfl⟩:hp=boot_heap w.params∧gs=Array.mk []∧d=boot_drawn∧k=boot_toks:=by simpa using e2
 obtain ⟨z1,z2,z3⟩:_∧_∧_:=by simpa only [Prod.mk.injEq] using boot_size w.params
 obtain ⟨s,h1,h2⟩:=Option.map_eq_some_iff.mp (h w os)
 rw [← Fast.te4187177175401517315,← Fast.te5923862056798008813] at h2
 obtain ⟨l1,l2,l3⟩:_∧_∧_:=by simpa only [Prod.mk.injEq] using h2
 have r:=topT_of h1
 rw [bootT_abs] at r
 have t:topFrom treeTable p w N ⟨boot_heap w.params,Array.mk [],boot_drawn,boot_toks,os⟩=some s.abs:=by
  unfold topFrom
  dsimp only
  rw [z1,z2,z3,r]
  show (match staticsOk (importedModules p.main.body) (boot_heap w.params) s.abs.heap && namesBound p s.abs.heap && gensDone s.abs && laidKept (boot_heap w.params) s.abs.heap with | true=>_ | false=>_)=_
  rw [l1]
 unfold openEnds
 rw [e1]
 show (topFrom treeTable p w N _).map _=_
 rw [t]
 exact congrArg some (Prod.ext l2 l3)
theorem holds_own{r:OpenRow}{q:Program}{loose:List Str}{Xt:Shared→Bool}{XP:(Str→Option Value)→Heap→Prop}{α:Type}{Yf:Shared→α}{Ya:World→α}{YP:World→Heap→Prop}{d:DefRec}{kwd:List (Str×Expr)}{N:Nat}
  (hY:∀ w s,Yf s=Ya w→YP w s.heap) (hYk:∀ w h h',YP w h→(∀ b o,h.get? b=some o→h'.get? b=some o)→YP w h')
  (hX:∀ s,Xt s=true→XP (s.heap.nsMap mainGlobals) s.heap) (hXk:∀ mg h h',XP mg h→(∀ b o,h.get? b=some o→h'.get? b=some o)→XP mg h')
  (hdef:defOf q r.name=some (d,kwd)) (hp:r.prog.theDef r.name=some (d.params,d.body,d.scope)) (hk:kwWritten? d.params.kwonlyargs d.params.kw_defaults=some kwd)
  (hRf:∀ s,Xt s=true→RecFacts r.records s.heap) (hwr:(!r.writes || r.records.isEmpty)=true)
  (k1:r.wellSaid=true) (ok:(chainsOk q && opensWell r.prog && (frees r.toRowW && r.within.isEmpty))=true) (hb:r.prog.bare)
  (e:opening r.prog=plainProg r.prog.main.scope.names) (f:∀ s,fenceModules? r.prog s=some s) (le:Nat.ble 600 N=true)
  (hw:r.toRowW.promised) (x:(∀ w,HL r.prog q loose Xt Yf Ya N w)∧WalkO q loose XP YP r.toRowW d kwd fun f vs=>PySem.call f vs):r.Holds :=
 holds_open (left_by e f le x.1) hY hYk hX hXk hdef hp hk hRf hwr k1 ok hb hw x.2
def sideP{P:World→Prop}{B C:Prop}(_:(∀ w,P w)∧B→C):World→Prop:=P
end
end PySem.W
namespace K64
noncomputable def qv:PySem.Program:=PySem.W.view PySem.Challenge.pw_callmatch_k64_charts_of_programs [1,2,4,5,6,7,9,10,11,12,13,14,15,17,18,19,20,21,22,23,24,25,27,28,29,30,31,32,33,34,35,36,37,38,39,40,41,42,43,44,45,46,47,48]
open PySem.W in
local macro_rules
 |`(tactic| o_head $H)=>`(tactic|
   refine holds_own (q:=qv) (loose:=[])
     (Xt:=fun s=>xlAt qv [] s && recOk (RowW.records (OpenRow.toRowW (OpenLaw.row PySem.Challenge.rw_callmatch_k64_charts_of_programs))) s)
     (XP:=XL qv []) (Yf:=Hook.obs $H) (Ya:=Hook.val $H)
     (YP:=Hook.says $H) (N:=20000) (Hook.of $H) (Hook.keeps $H)
     (fun s e=>xl_of s (Bool.and_eq_true_iff.mp e).1) XL.keeps (by rfl) (by rfl) (by rfl)
     (fun s e=>recFacts_of (Bool.and_eq_true_iff.mp e).2) (by rfl) (by assumption)
     (by decide +kernel) ⟨rfl,rfl,rfl,rfl,rfl,by decide +kernel⟩ (by kernel_rfl) (fun _=>by kernel_rfl) (by decide) ?hw ?hc)
open_top opened for PySem.Challenge.rw_callmatch_k64_charts_of_programs
set_option maxHeartbeats 0 in
theorem side(w:PySem.World):PySem.W.sideP opened w:=by
 intro os
 kernel_rfl
end K64
open PySem PySem.W PyProof.Rows
set_option maxRecDepth 100000 in
set_option maxHeartbeats 0 in
theorem PySem.Challenge.cw_callmatch_k64_charts_of_programs_holds : PySem.Challenge.rw_callmatch_k64_charts_of_programs.Holds := by
  refine K64.opened ⟨K64.side, ?_⟩
  k_fill
  refine DL.walkD (l := PySem.Challenge.rw_callmatch_k64_charts_of_programs) (n := 63) (k := 7) (S := K64.S_q31) (x := "_law_script") rfl (by decide) rfl ⟨rfl, by decide, by decide⟩ (fun w h Y => PySem.W.kIn_of Y) ?F K64.law_true
  case F =>
    intro w mg fa h KX G hmg
    refine' K64.all_mk KX G hmg ?e_q34 ?l_q34 ?c_q34 ?k_q34 ?e_q30 ?l_q30 ?c_q30 ?k_q30 ?e_q28 ?l_q28 ?c_q28 ?k_q28 ?e_q23 ?l_q23 ?c_q23 ?k_q23 ?e_q29 ?l_q29 ?c_q29 ?k_q29 ?e_q33 ?l_q33 ?c_q33 ?k_q33 ?e_q32 ?l_q32 ?c_q32 ?k_q32 ?e_q35 ?l_q35 ?c_q35 ?k_q35 ?e_q21 ?l_q21 ?c_q21 ?k_q21 ?e_q37 ?l_q37 ?c_q37 ?k_q37 ?e_q26 ?l_q26 ?c_q26 ?k_q26 ?e_q25 ?l_q25 ?c_q25 ?k_q25 ?e_q24 ?l_q24 ?c_q24 ?k_q24 ?e_q27 ?l_q27 ?c_q27 ?k_q27 ?e_q22 ?l_q22 ?c_q22 ?k_q22 ?e_q36 ?l_q36 ?c_q36 ?k_q36 ?e_q4 ?l_q4 ?c_q4 ?k_q4 ?e_q5 ?l_q5 ?c_q5 ?k_q5 ?e_q19 ?l_q19 ?c_q19 ?k_q19 ?e_q6 ?l_q6 ?c_q6 ?k_q6 ?e_q18 ?l_q18 ?c_q18 ?k_q18 ?e_q14 ?l_q14 ?c_q14 ?k_q14 ?e_q2 ?l_q2 ?c_q2 ?k_q2 ?e_q7 ?l_q7 ?c_q7 ?k_q7 ?e_q13 ?l_q13 ?c_q13 ?k_q13 ?e_q17 ?l_q17 ?c_q17 ?k_q17 ?e_q16 ?l_q16 ?c_q16 ?k_q16 ?e_q3 ?l_q3 ?c_q3 ?k_q3 ?e_q10 ?l_q10 ?c_q10 ?k_q10 ?e_q1 ?l_q1 ?c_q1 ?k_q1 ?e_q15 ?l_q15 ?c_q15 ?k_q15 ?e_q12 ?l_q12 ?c_q12 ?k_q12 ?e_q8 ?l_q8 ?c_q8 ?k_q8 ?e_q11 ?l_q11 ?c_q11 ?k_q11 ?e_q0 ?l_q0 ?c_q0 ?k_q0 ?e_q9 ?l_q9 ?c_q9 ?k_q9 ?e_q20 ?l_q20 ?c_q20 ?k_q20 ?e_q31 ?l_q31 ?c_q31 ?k_q31 ?z_all ?z_bool ?z_enumerate ?z_int ?z_isinstance ?z_len ?z_list ?z_min ?z_range ?z_tuple ?z_zip ?y_MOST_EDGES ?y_MOST_FACTS ?y_MOST_FUNCTIONS ?y_MOST_PLACES
    (case e_q34 => k_is)
    (case l_q34 => k_is)
    (case c_q34 => k_is)
    (case k_q34 => k_is)
    (case e_q30 => k_is)
    (case l_q30 => k_is)
    (case c_q30 => k_is)
    (case k_q30 => k_is)
    (case e_q28 => k_is)
    (case l_q28 => k_is)
    (case c_q28 => k_is)
    (case k_q28 => k_is)
    (case e_q23 => k_is)
    (case l_q23 => k_is)
    (case c_q23 => k_is)
    (case k_q23 => k_is)
    (case e_q29 => k_is)
    (case l_q29 => k_is)
    (case c_q29 => k_is)
    (case k_q29 => k_is)
    (case e_q33 => k_is)
    (case l_q33 => k_is)
    (case c_q33 => k_is)
    (case k_q33 => k_is)
    (case e_q32 => k_is)
    (case l_q32 => k_is)
    (case c_q32 => k_is)
    (case k_q32 => k_is)
    (case e_q35 => k_is)
    (case l_q35 => k_is)
    (case c_q35 => k_is)
    (case k_q35 => k_is)
    (case e_q21 => k_is)
    (case l_q21 => k_is)
    (case c_q21 => k_is)
    (case k_q21 => k_is)
    (case e_q37 => k_is)
    (case l_q37 => k_is)
    (case c_q37 => k_is)
    (case k_q37 => k_is)
    (case e_q26 => k_is)
    (case l_q26 => k_is)
    (case c_q26 => k_is)
    (case k_q26 => k_is)
    (case e_q25 => k_is)
    (case l_q25 => k_is)
    (case c_q25 => k_is)
    (case k_q25 => k_is)
    (case e_q24 => k_is)
    (case l_q24 => k_is)
    (case c_q24 => k_is)
    (case k_q24 => k_is)
    (case e_q27 => k_is)
    (case l_q27 => k_is)
    (case c_q27 => k_is)
    (case k_q27 => k_is)
    (case e_q22 => k_is)
    (case l_q22 => k_is)
    (case c_q22 => k_is)
    (case k_q22 => k_is)
    (case e_q36 => k_is)
    (case l_q36 => k_is)
    (case c_q36 => k_is)
    (case k_q36 => k_is)
    (case e_q4 => k_is)
    (case l_q4 => k_is)
    (case c_q4 => k_is)
    (case k_q4 => k_is)
    (case e_q5 => k_is)
    (case l_q5 => k_is)
    (case c_q5 => k_is)
    (case k_q5 => k_is)
    (case e_q19 => k_is)
    (case l_q19 => k_is)
    (case c_q19 => k_is)
    (case k_q19 => k_is)
    (case e_q6 => k_is)
    (case l_q6 => k_is)
    (case c_q6 => k_is)
    (case k_q6 => k_is)
    (case e_q18 => k_is)
    (case l_q18 => k_is)
    (case c_q18 => k_is)
    (case k_q18 => k_is)
    (case e_q14 => k_is)
    (case l_q14 => k_is)
    (case c_q14 => k_is)
    (case k_q14 => k_is)
    (case e_q2 => k_is)
    (case l_q2 => k_is)
    (case c_q2 => k_is)
    (case k_q2 => k_is)
    (case e_q7 => k_is)
    (case l_q7 => k_is)
    (case c_q7 => k_is)
    (case k_q7 => k_is)
    (case e_q13 => k_is)
    (case l_q13 => k_is)
    (case c_q13 => k_is)
    (case k_q13 => k_is)
    (case e_q17 => k_is)
    (case l_q17 => k_is)
    (case c_q17 => k_is)
    (case k_q17 => k_is)
    (case e_q16 => k_is)
    (case l_q16 => k_is)
    (case c_q16 => k_is)
    (case k_q16 => k_is)
    (case e_q3 => k_is)
    (case l_q3 => k_is)
    (case c_q3 => k_is)
    (case k_q3 => k_is)
    (case e_q10 => k_is)
    (case l_q10 => k_is)
    (case c_q10 => k_is)
    (case k_q10 => k_is)
    (case e_q1 => k_is)
    (case l_q1 => k_is)
    (case c_q1 => k_is)
    (case k_q1 => k_is)
    (case e_q15 => k_is)
    (case l_q15 => k_is)
    (case c_q15 => k_is)
    (case k_q15 => k_is)
    (case e_q12 => k_is)
    (case l_q12 => k_is)
    (case c_q12 => k_is)
    (case k_q12 => k_is)
    (case e_q8 => k_is)
    (case l_q8 => k_is)
    (case c_q8 => k_is)
    (case k_q8 => k_is)
    (case e_q11 => k_is)
    (case l_q11 => k_is)
    (case c_q11 => k_is)
    (case k_q11 => k_is)
    (case e_q0 => k_is)
    (case l_q0 => k_is)
    (case c_q0 => k_is)
    (case k_q0 => k_is)
    (case e_q9 => k_is)
    (case l_q9 => k_is)
    (case c_q9 => k_is)
    (case k_q9 => k_is)
    (case e_q20 => k_is)
    (case l_q20 => k_is)
    (case c_q20 => k_is)
    (case k_q20 => k_is)
    (case e_q31 => k_is)
    (case l_q31 => k_is)
    (case c_q31 => k_is)
    (case k_q31 => k_is)
    (case z_all => k_is)
    (case z_bool => k_is)
    (case z_enumerate => k_is)
    (case z_int => k_is)
    (case z_isinstance => k_is)
    (case z_len => k_is)
    (case z_list => k_is)
    (case z_min => k_is)
    (case z_range => k_is)
    (case z_tuple => k_is)
    (case z_zip => k_is)
    (case y_MOST_EDGES => k_is)
    (case y_MOST_FACTS => k_is)
    (case y_MOST_FUNCTIONS => k_is)
    (case y_MOST_PLACES => k_is)
#print axioms PySem.Challenge.cw_callmatch_k64_charts_of_programs_holds
