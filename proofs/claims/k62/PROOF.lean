import PyProof.Rows.All
import Wide.All
import OpenK.AllK
import Wide.FinOn
import Lean
import PyProof.EqAt
import PyProof.EqKinds
import PyProof.TupleCall
import PyProof.EqLayable
import PyProof.P3In
import PyProof.Draws
import PyProof.EnumMake
import PyProof.CompFree
import PyProof.CompUse
import KE.KRevIter
import PyProof.DictIter
import PyProof.ZipIter
import PyProof.ListMulRoad
import PyProof.ConsumeWalk
import PyProof.ListRange
import PyProof.StrWalks
import PyProof.FString5
import PyProof.StrOps
import KE.KIntText
import PyProof.SliceStr2
import PyProof.StrBlock
import PyProof.StrCalls
import PyProof.StrLawsIn
import KE.IntTextLaws
import PyProof.Rows.StrMadeLen
import PyProof.StrBlockH
import PyProof.StrLawsChain
import PyProof.StrLawsTight
import PyProof.StrLawsJoin
import PyProof.Rows.StrNews
import PyProof.TupleKey
import PyProof.SetScanFacts
import PyProof.SetKind
import PyProof.DictKinds
import PyProof.Rows.SetFrom
import PyProof.Rows.StrInSeq3
import KE.KDictLaws
import KE.IntTextText
import KE.IntTextLaws
import PyProof.Ascii
import PyProof.Rows.SeqMore2
import PyProof.Rows.SeqMore
import PySem.Challenge.RW_callmatch_k62_whole_read_and_written
set_option Elab.async false
set_option linter.all false
set_option maxRecDepth 100000
set_option genSizeOfSpec false
set_option compiler.extract_closed false
set_option maxHeartbeats 4000000
local macro_rules | `(tactic| trivial) => `(tactic| first | exact .inl rfl | exact .inr (.inl rfl) | exact .inr (.inr rfl) | exact .inr rfl | assumption)
noncomputable section
namespace L2
open PySem PySem.Spec PyProof.Rows
abbrev Key:=Sum Int Str
def a0f:Key->Value->Bool
 |.inl k,v=>Value.isInt k v
 |.inr x,v=>Value.isStrOf x v
def b9B(w:World):Key->Int
 |.inl k=>hashInt k
 |.inr x=>hashStr w x
theorem u1:∀ {k:Key} {v:Value},a0f k v=true->(∃ i t,k=Sum.inl i/\v=Value.int i t)\/(∃ x t,k=Sum.inr x/\v=Value.str x t)
 |.inl i,v,h=>by
  obtain ⟨t,e⟩:=Value.isInt_shape (k:=i) (v:=v) h;exact .inl ⟨i,t,rfl,e⟩
 |.inr x,v,h=>by
  obtain ⟨t,e⟩:=Value.isStrOf_shape (x:=x) (v:=v) h;exact .inr ⟨x,t,rfl,e⟩
theorem a4U(i:Int)(t:Tok):a0f (.inl i) (.int i t)=true:=by simp [a0f,Value.isInt]
theorem a4h(x:Str)(t:Tok):a0f (.inr x) (.str x t)=true:=by simp [a0f,Value.isStrOf]
theorem b4f(a b:Int):decide ((Sum.inl a:Key)=Sum.inl b)=(a == b):=by
 by_cases e:a=b
 ·subst e;simp
 ·have h:¬ (Sum.inl a:Key)=Sum.inl b:=fun q=>e (Sum.inl.inj q);rw [decide_eq_false h];exact (beq_eq_false_iff_ne.mpr e).symm
theorem b5j(a b:Str):decide ((Sum.inr a:Key)=Sum.inr b)=decide (a=b):=by
 by_cases e:a=b
 ·subst e;simp
 ·have h:¬ (Sum.inr a:Key)=Sum.inr b:=fun q=>e (Sum.inr.inj q);rw [decide_eq_false h,decide_eq_false e]
theorem b6w(a:Int)(b:Str):decide ((Sum.inl a:Key)=Sum.inr b)=false:=decide_eq_false (fun q=>nomatch q)
theorem b6K(a:Str)(b:Int):decide ((Sum.inr a:Key)=Sum.inl b)=false:=decide_eq_false (fun q=>nomatch q)
def n5(prog:Program)(w:World):PySem.KeyKind prog w Key where
 is:=a0f
 hash:=b9B w
 inj:=fun v a b ha hb=>by
  rcases u1 ha with ⟨i,t,rfl,rfl⟩ | ⟨x,t,rfl,rfl⟩
  ·rcases u1 hb with ⟨j,u,rfl,e⟩ | ⟨y,u,rfl,e⟩
   ·injection e with e1 _;rw [e1]
   ·exact nomatch e
  ·rcases u1 hb with ⟨j,u,rfl,e⟩ | ⟨y,u,rfl,e⟩
   ·exact nomatch e
   ·injection e with e1 _;rw [e1]
 byValue:=fun k v h=>by
  rcases u1 h with ⟨i,t,rfl,rfl⟩ | ⟨x,t,rfl,rfl⟩ <;> rfl
 pyHash:=fun hv h=>by
  rcases u1 hv with ⟨i,t,rfl,rfl⟩ | ⟨x,t,rfl,rfl⟩
  ·exact wpAny_pyHash_int h
  ·exact wpAny_pyHash_str h
 eqBool:=fun hu hv h=>by
  rcases u1 hu with ⟨i,t,rfl,rfl⟩ | ⟨x,t,rfl,rfl⟩
  ·rcases u1 hv with ⟨j,u,rfl,rfl⟩ | ⟨y,u,rfl,rfl⟩
   ·rw [b4f] at h;exact wpAny_eqBool_int h
   ·rw [b6w] at h;exact SeqAt.EqAt.int_str i t y u _ _ _ _ h
  ·rcases u1 hv with ⟨j,u,rfl,rfl⟩ | ⟨y,u,rfl,rfl⟩
   ·rw [b6K] at h;exact SeqAt.EqAt.str_int x t j u _ _ _ _ h
   ·rw [b5j] at h;exact wpAny_eqBool_str h
 «strs»:=fun k x t v h=>by
  rcases u1 h with ⟨i,u,rfl,e⟩ | ⟨y,u,rfl,e⟩
  ·exact nomatch e
  ·injection e with e1 _
   subst e1
   cases v <;> rfl
theorem a1a(prog:Program)(w:World)(i:Int)(t:Tok):(n5 prog w).is (.inl i) (.int i t)=true:=a4U i t
theorem a1S(prog:Program)(w:World)(x:Str)(t:Tok):(n5 prog w).is (.inr x) (.str x t)=true:=a4h x t
end L2
namespace L2
open PySem PySem.Spec PyProof.Rows
inductive V where
 |non | bl (b:Bool) | int (i:Int) | str (x:Str) | byt (b:Array UInt8) | flt (b:UInt64) | ref (a:Addr) | ty (n:String)
 deriving DecidableEq
def RelV:V->Value->Prop
 |.non,u=>u=Value.none
 |.bl b,u=>u=Value.bool b
 |.int i,u=>∃ t,u=Value.int i t
 |.str x,u=>∃ t,u=Value.str x t
 |.byt b,u=>∃ t,u=Value.bytes b t
 |.flt b,u=>∃ t,u=Value.float b t
 |.ref a,u=>u=Value.ref a
 |.ty n,u=>u=Value.type n
abbrev Vals:List V->List Value->Prop:=Paired RelV
theorem Vals.length{xs:List V}{us:List Value}(r:Vals xs us):xs.length=us.length:=Paired.length r
theorem Vals.get:∀ {xs:List V} {us:List Value} {i:Nat} {x:V},Vals xs us->xs[i]?=some x->∃ u,us[i]?=some u/\RelV x u
 |_,_,_,_,.nil,e=>by simp at e
 |_,_,0,_,.cons r _,e=>by simp at e;subst e;exact ⟨_,rfl,r⟩
 |_,_,i + 1,x,.cons _ t,e=>by
  obtain ⟨u,h1,h2⟩:=Vals.get (i:=i) (x:=x) t (by simpa using e);exact ⟨u,by simpa using h1,h2⟩
theorem Vals.set{x:V}{u:Value}(r:RelV x u):∀ {xs:List V} {us:List Value} (i:Nat),Vals xs us->Vals (xs.set i x) (us.set i u)
 |_,_,_,.nil=>.nil
 |_,_,0,.cons _ t=>.cons r t
 |_,_,i + 1,.cons q t=>.cons q (Vals.set r i t)
theorem Vals.append:∀ {xs ys:List V} {us ws:List Value},Vals xs us->Vals ys ws->Vals (xs ++ ys) (us ++ ws)
 |_,_,_,_,.nil,s=>s
 |_,_,_,_,.cons r t,s=>.cons r (Vals.append t s)
theorem Vals.take:∀ {xs:List V} {us:List Value} (n:Nat),Vals xs us->Vals (xs.take n) (us.take n)
 |_,_,0,_=>.nil
 |_,_,_ + 1,.nil=>.nil
 |_,_,n + 1,.cons r t=>.cons r (Vals.take n t)
theorem Vals.drop:∀ {xs:List V} {us:List Value} (n:Nat),Vals xs us->Vals (xs.drop n) (us.drop n)
 |_,_,0,r=>r
 |_,_,_ + 1,.nil=>.nil
 |_,_,n + 1,.cons _ t=>Vals.drop n t
def RelO:Option V->Option Value->Prop
 |some v,some u=>RelV v u
 |none,none=>True
 |_,_=>False
def KV{κ:Type}:List (κ×V)->List (κ×Value)->Prop:=Paired fun (p:κ×V) (q:κ×Value)=>p.1=q.1/\RelV p.2 q.2
def kV:Key->V
 |.inl i=>.int i
 |.inr x=>.str x
inductive HO where
 |lst (xs:List V)
 |tup (xs:List V)
 |dK (kvs:List (Key×V)) | dT (kvs:List (List Key×V))
 |set (S:Int->Bool) (n:Nat)
 |ins (C dx:Addr) (fs:List (Str×V))
 |own (x:Addr)
 |xd (fs:List (Str×V))
 |met (f x:Addr)
 |rng (lo hi:Int)
 |frz (o:Obj) (u:HO)
 |tbl (ps:Array Value)
 |ext (φ:Heap->Prop)
abbrev Hp:=Addr->Option HO
def upd(H:Hp)(a:Addr)(o:HO):Hp:=fun b=>if b=a then some o else H b
theorem l9{H:Hp}{a:Addr}{o:HO}:upd H a o a=some o:=by unfold upd;rw [if_pos rfl]
theorem p5{H:Hp}{a b:Addr}{o:HO}(h:b ≠ a):upd H a o b=H b:=by unfold upd;rw [if_neg h]
theorem A5{H:Hp}{a b:Addr}{o:HO}(h:H a=some o)(h':H b=none):a ≠ b:=by
 intro e;subst e;rw [h] at h';cases h'
section
variable (P:Program) (w:World)
def ObjOk(H:Hp)(h:Heap)(a:Addr):HO->Prop
 |.lst xs=>xs.length <= sizeLine/\∃ (its:List Value) (n:Nat),Vals xs its/\h.get? a=some { cls:=.type "list",data:=.seq its.toArray n }
 |.tup xs=>xs.length <= sizeLine/\∃ its:List Value,Vals xs its/\IsTup h a its.toArray
 |.dK kvs=>kvs.length <= sizeLine/\(a == sysModules)=false/\∃ vs,KV kvs vs/\h.DictOf (n5 P w) a vs
 |.dT kvs=>kvs.length <= sizeLine/\(a == sysModules)=false/\∃ xs:List (List Key×Addr×Value),
   Paired (fun (p:List Key×V) (q:List Key×Addr×Value)=>p.1=q.1/\H q.2.1=some (.tup (p.1.map kV))/\RelV p.2 q.2.2) kvs xs /\
   ∃ o es ep,h.get? a=some o/\o.ExactDict/\o.data = .dict es ep/\es.toList=xs.map (entryOfKey (tupleKind (n5 P w)))/\(xs.map (·.1)).Nodup
 |.set S n=>h.SetOf (intKind P w) a S n
 |.ins C dx fs=>H dx=some (.own a)/\fs.length <= 1000/\dx ≠ a/\h.get? a=some (PySem.W.instObj C dx) /\
   ∃ mA,h.Ns1 dx mA/\(∀ f,RelO (fs.lookup f) (mA f))/\PySem.Within mA (fs.map (·.1))
 |.own _=>∃ o,h.get? a=some o
 |.xd fs=>∃ mA,h.Ns1 a mA/\∀ f,RelO (fs.lookup f) (mA f)
 |.rng lo hi=>∃ t u v,h.get? a=some { cls:=.type "range",data:=.fields #[.int lo t,.int hi u,.int 1 v] }
 |.frz o u=>h.get? a=some o/\ObjOk H h a u
 |.tbl ps=>h.get? a=some { cls:=.none,data:=.fields ps }
 |.met f x=>h.get? a=some (PySem.W.methodObj (.ref f) (.ref x))
 |.ext φ=>φ h/\(∃ o,h.get? a=some o)/\∀ h1 h2:Heap,φ h1->(∀ o,h1.get? a=some o->h2.get? a=some o)->φ h2
def HOk(H:Hp)(h:Heap):Prop:=∀ a o,H a=some o->ObjOk P w H h a o
end
section
variable {P:Program} {w:World} {H H':Hp} {h h':Heap} {a:Addr} {o:HO}
theorem ObjOk.lt(x:ObjOk P w H h a o):a < h.objs.size:=by
 cases o with
 |lst xs=>obtain ⟨_,_,_,_,e⟩:=x;exact Heap.lt_size e
 |tup xs=>obtain ⟨_,_,_,p⟩:=x;exact p.lt
 |dK kvs=>obtain ⟨_,_,_,_,o,_,_,e,_⟩:=x;exact Heap.lt_size e
 |dT kvs=>obtain ⟨_,_,_,_,o,_,_,e,_⟩:=x;exact Heap.lt_size e
 |set S n=>obtain ⟨o,_,_,_,e,_⟩:=x;exact Heap.lt_size e
 |ins C dx fs=>obtain ⟨_,_,_,e,_⟩:=x;exact Heap.lt_size e
 |own y=>obtain ⟨_,e⟩:=x;exact Heap.lt_size e
 |xd fs=>obtain ⟨_,⟨_,_,_,e,_⟩,_⟩:=x;exact Heap.lt_size e
 |rng lo hi=>obtain ⟨_,_,_,e⟩:=x;exact Heap.lt_size e
 |frz ob u=>obtain ⟨e,_⟩:=x;exact Heap.lt_size e
 |tbl ps=>exact Heap.lt_size (show h.get? a=some _ from x)
 |met f y=>exact Heap.lt_size (show h.get? a=some _ from x)
 |ext φ=>obtain ⟨_,⟨_,e⟩,_⟩:=x;exact Heap.lt_size e
theorem Paired.mapP{α β:Type}{F G:α->β->Prop}{l₁:List α}{l₂:List β}(h:Paired F l₁ l₂)(f:∀ a b,F a b->G a b):Paired G l₁ l₂:=by
 induction h with
 |nil=>exact .nil
 |cons r _ ih=>exact .cons (f _ _ r) ih
theorem ObjOk.stay(x:ObjOk P w H h a o)(k:∀ b u,(b=a\/H b=some (.own a))->h.get? b=some u->h'.get? b=some u)
  (ho:∀ b,H b=some (.own a)->H' b=some (.own a)) (ht:∀ b xs,H b=some (.tup xs)->H' b=some (.tup xs)):ObjOk P w H' h' a o:=by
 induction o with
 |lst xs=>obtain ⟨z,its,n,r,e⟩:=x;exact ⟨z,its,n,r,k _ _ (.inl rfl) e⟩
 |tup xs=>obtain ⟨z,its,r,ob,e,c⟩:=x;exact ⟨z,its,r,ob,k _ _ (.inl rfl) e,c⟩
 |dK kvs=>obtain ⟨z,y,vs,r,ob,es,ep,e,c⟩:=x;exact ⟨z,y,vs,r,ob,es,ep,k _ _ (.inl rfl) e,c⟩
 |dT kvs =>
  obtain ⟨z,y,xs,r,ob,es,ep,e,c⟩:=x;exact ⟨z,y,xs,Paired.mapP r fun p q z=>⟨z.1,ht _ _ z.2.1,z.2.2⟩,ob,es,ep,k _ _ (.inl rfl) e,c⟩
 |set S n=>obtain ⟨ob,es,ep,t,e,c⟩:=x;exact ⟨ob,es,ep,t,k _ _ (.inl rfl) e,c⟩
 |ins C dx fs =>
  obtain ⟨d,z,ne,e,mA,⟨od,es,ep,e2,c⟩,r⟩:=x;exact ⟨ho _ d,z,ne,k _ _ (.inl rfl) e,mA,⟨od,es,ep,k _ _ (.inr d) e2,c⟩,r⟩
 |own y=>obtain ⟨ob,e⟩:=x;exact ⟨ob,k _ _ (.inl rfl) e⟩
 |xd fs=>obtain ⟨mA,⟨od,es,ep,e,c⟩,r⟩:=x;exact ⟨mA,⟨od,es,ep,k _ _ (.inl rfl) e,c⟩,r⟩
 |rng lo hi=>obtain ⟨t,u,v,e⟩:=x;exact ⟨t,u,v,k _ _ (.inl rfl) e⟩
 |frz ob u ih=>obtain ⟨e,q⟩:=x;exact ⟨k _ _ (.inl rfl) e,ih q⟩
 |tbl ps =>
  have e:h.get? a=some { cls:=.none,data:=.fields ps }:=x;show h'.get? a=some { cls:=.none,data:=.fields ps };exact k a _ (.inl rfl) e
 |met f y =>
  have e:h.get? a=some (PySem.W.methodObj (.ref f) (.ref y)):=x;show h'.get? a=some (PySem.W.methodObj (.ref f) (.ref y));exact k a _ (.inl rfl) e
 |ext φ=>obtain ⟨p,⟨o,e⟩,st⟩:=x;exact ⟨st _ _ p fun o q=>k _ _ (.inl rfl) q,⟨o,k _ _ (.inl rfl) e⟩,st⟩
theorem HOk.lt(x:HOk P w H h)(e:H a=some o):a < h.objs.size:=(x a o e).lt
theorem HOk.fresh(x:HOk P w H h)(e:h.objs.size <= a):H a=none:=by
 cases q:H a with
 |none=>rfl
 |some u=>exact absurd (Nat.lt_of_lt_of_le (x.lt q) e) (Nat.lt_irrefl _)
theorem HOk.kept(x:HOk P w H h)(k:∀ b u,h.get? b=some u->h'.get? b=some u):HOk P w H h':=fun a o e =>
 (x a o e).stay (fun b u _ q=>k b u q) (fun _ q=>q) fun _ _ q=>q
theorem HOk.laid(x:HOk P w H h)(k:∀ b u,h.get? b=some u->h'.get? b=some u)(hp:h.objs.size <= a)(new:ObjOk P w (upd H a o) h' a o):HOk P w (upd H a o) h':=fun b u e=>by
 have hn:=x.fresh hp
 by_cases hb:b=a
 ·subst hb;rw [l9] at e;cases e;exact new
 ·rw [p5 hb] at e;exact (x b u e).stay (fun c v _ q=>k c v q) (fun c q=>by rw [p5 (A5 q hn)];exact q) fun c xs q=>by rw [p5 (A5 q hn)];exact q
end
def Rd(H:Hp)(a:Addr)(u:HO):Prop:=H a=some u\/∃ o,H a=some (.frz o u)
theorem Rd.ok{P:Program}{w:World}{H:Hp}{h:Heap}{a:Addr}{u:HO}(r:Rd H a u)(x:HOk P w H h):ObjOk P w H h a u:=by
 rcases r with r | ⟨o,r⟩
 ·exact x a u r
 ·obtain ⟨_,q⟩:=x a _ r;exact q
def Mut:Option HO->Prop
 |some (.lst _)=>True
 |some (.dK _)=>True
 |some (.dT _)=>True
 |some (.set _ _)=>True
 |some (.ins _ _ _)=>True
 |some (.ext _)=>True
 |_=>False
section
variable {P:Program} {w:World} {H:Hp} {h h':Heap} {x e:Addr} {o':HO}
theorem HOk.write(ok:HOk P w H h)(mu:Mut (H x))(he:e=x\/H e=some (.own x))(k:∀ b u,b ≠ e->h.get? b=some u->h'.get? b=some u)(heo:∃ u,h'.get? e=some u)
  (new:ObjOk P w (upd H x o') h' x o'):HOk P w (upd H x o') h':=fun b u q=>by
 have nown:∀ c y,H c=some (.own y)->c ≠ x:=fun c y r z=>by subst z;rw [r] at mu;exact mu
 have ntup:∀ c xs,H c=some (.tup xs)->c ≠ x:=fun c xs r z=>by subst z;rw [r] at mu;exact mu
 by_cases hb:b=x
 ·subst hb;rw [l9] at q;cases q;exact new
 ·rw [p5 hb] at q
  by_cases hbe:b=e
  ·have q':H b=some (.own x):=by
    rcases he with z | z
    ·exact absurd (hbe.trans z) hb
    ·rw [hbe];exact z
   rw [q] at q';cases q'
   obtain ⟨v,hv⟩:=heo;exact ⟨v,by rw [hbe];exact hv⟩
  ·refine (ok b u q).stay (fun c v hc r=>k c v ?_ r) (fun c r=>by rw [p5 (nown c b r)];exact r) fun c xs r=>by rw [p5 (ntup c xs r)];exact r
   rcases hc with rfl | hc
   ·exact hbe
   ·rintro rfl
    rcases he with z | z
    ·exact nown c b hc z
    ·rw [hc] at z;cases z;exact hb rfl
end
structure Un(fs ex:List Addr)(H H':Hp)(h h':Heap):Prop where
 keep:∀ b o,h.get? b=some o->H b=none->b ∉ fs->b ∉ ex->h'.get? b=some o
 slot:∀ b o,h.get? b=some o->H b=none->b ∈ fs->b ∉ ex->∃ sl,h'.get? b=some { o with slots:=sl }
 free:∀ b o,h.get? b=some o->H b=none->b ∉ ex->H' b=none
 there:∀ b o,h.get? b=some o->b ∉ ex->∃ o',h'.get? b=some o'
 tups:∀ b xs,H b=some (.tup xs)->H' b=some (.tup xs)
 frzs:∀ b o u,H b=some (.frz o u)->H' b=some (.frz o u)
 tbls:∀ b ps,H b=some (.tbl ps)->∃ more,H' b=some (.tbl (ps ++ more))
section
variable {fs fs' ex ex':List Addr} {H H1 H2:Hp} {h h1 h2 h':Heap} {a x e:Addr} {o:HO}
theorem Un.any(u:Un fs ex H H1 h h1){b:Addr}{ob:Obj}(q:h.get? b=some ob)(n:H b=none)(hx:b ∉ ex):∃ sl,h1.get? b=some { ob with slots:=sl }:=by
 by_cases hb:b ∈ fs
 ·exact u.slot b ob q n hb hx
 ·exact ⟨ob.slots,u.keep b ob q n hb hx⟩
theorem Un.kept(k:∀ b u,h.get? b=some u->h'.get? b=some u):Un fs ex H H h h' :=
 ⟨fun b ob q _ _ _=>k b ob q,fun b ob q _ _ _=>⟨ob.slots,k b ob q⟩,fun _ _ _ n _=>n,fun b ob q _=>⟨ob,k b ob q⟩,fun _ _ q=>q,fun _ _ _ q=>q,fun _ ps q=>⟨#[],by rw [q];simp⟩⟩
theorem Un.refl:Un fs ex H H h h:=Un.kept fun _ _ q=>q
theorem Un.laid(k:∀ b u,h.get? b=some u->h'.get? b=some u)(hp:h.objs.size <= a)(hn:H a=none):Un fs ex H (upd H a o) h h' where
 keep:=fun b u q _ _ _=>k b u q
 slot:=fun b u q _ _ _=>⟨u.slots,k b u q⟩
 free:=fun b u q n _=>by rw [p5 (Nat.ne_of_lt (Nat.lt_of_lt_of_le (Heap.lt_size q) hp))];exact n
 there:=fun b u q _=>⟨u,k b u q⟩
 tups:=fun b xs q=>by rw [p5 (A5 q hn)];exact q
 frzs:=fun b u xs q=>by rw [p5 (A5 q hn)];exact q
 tbls:=fun b ps q=>⟨#[],by rw [p5 (A5 q hn),q];simp⟩
theorem Un.write(mu:Mut (H x))(he:e=x\/H e=some (.own x))(k:∀ b u,b ≠ e->h.get? b=some u->h'.get? b=some u)(heo:∃ u,h'.get? e=some u):Un fs ex H (upd H x o) h h':=by
 have hx:∀ b,H b=none->b ≠ x:=fun b n z=>by subst z;rw [n] at mu;exact mu
 have hb:∀ b,H b=none->b ≠ e:=fun b n z=>by
  subst z
  rcases he with r | r
  ·exact hx b n r
  ·rw [n] at r;cases r
 have hm:∀ b u,H b=some u->¬ Mut (some u)->b ≠ x:=fun b u q nm z=>by subst z;rw [q] at mu;exact nm mu
 refine ⟨fun b u q n _ _=>k b u (hb b n) q,fun b u q n _ _=>⟨u.slots,k b u (hb b n) q⟩,fun b u q n _=>by rw [p5 (hx b n)];exact n,fun b u q _=>?_,
  fun b xs q=>by rw [p5 (hm b _ q fun z=>z)];exact q,fun b u xs q=>by rw [p5 (hm b _ q fun z=>z)];exact q,fun b ps q=>⟨#[],by rw [p5 (hm b _ q fun z=>z),q];simp⟩⟩
 by_cases hbe:b=e
 ·subst hbe;exact heo
 ·exact ⟨u,k b u hbe q⟩
end
def trk(h:Heap)(H:Hp):List Addr:=(List.range h.objs.size).filter fun a=>(H a).isSome
def a0w(h:Heap)(H:Hp):Heap:=PySem.W.hideAll h (trk h H)
theorem a4P(h:Heap)(H:Hp):(a0w h H).objs.size=h.objs.size:=PySem.W.hideAll_size _ _
theorem a5A{h:Heap}{H:Hp}{b:Addr}{o:Obj}(e:h.get? b=some o)(n:H b=none):(a0w h H).get? b=some o :=
 PySem.W.hideAll_get _ e fun hm=>by
  have q:(H b).isSome=true:=(List.mem_filter.mp hm).2;rw [n] at q;simp at q
theorem b1r{h:Heap}{H:Hp}{b:Addr}{o:Obj}(e:(a0w h H).get? b=some o):h.get? b=some o/\H b=none:=by
 have e':h.get? b=some o:=PySem.W.of_hideAll (trk h H) e;refine ⟨e',?_⟩
 cases q:H b with
 |none=>rfl
 |some x =>
  have hm:b ∈ trk h H:=List.mem_filter.mpr ⟨List.mem_range.mpr (Heap.lt_size e'),by simp [q]⟩;have z:(a0w h H).get? b=none:=PySem.W.hideAll_none (trk h H) hm;rw [z] at e;cases e
end L2
namespace L2
open PySem PySem.Spec PyProof.Rows
structure Mod(K:PySem.W.Frag)(mg:Str->Option Value)(base:Heap):Prop where
 kin:K.In base
 glob:base.Ns mainGlobals mg
 blt:∃ mb,base.Ns builtinsNs mb/\∀ x:Str,x ≠ "__name__"->mb x=bootBuiltins x
 nolimit:base.NoLimit
set_option genInjectivity false in
structure Cx where
 prog:Program
 w:World
 K:PySem.W.Frag
 mg:Str->Option Value
 base:Heap
 A:Around
 N:List Str
 s₀:Shared
 H₀:Hp
 env:Env
 outer:List Env
 stack:List Env
 ex:List Addr
 fn:Str->Bool
 calm:Bool
 pn:List (Addr×Obj)
 xe:Value->Shared->Prop
 ex9:Value->Option Addr->Hp->Prop:=fun _ _ _=>False
def frs(l:List Env):List Addr:=l.filterMap (·.frame)
abbrev Cx.fs(X:Cx):List Addr:=frs X.outer
def Vis(sc:Scope)(x:Str):Prop:=sc.names.lookup x=some .local\/sc.names.lookup x=some .cell\/sc.names.lookup x=some .free
def Loc(sc:Scope)(x:Str):Prop:=sc.names.lookup x=some .local\/sc.names.lookup x=some .cell
def b9S(env:Env)(h:Heap)(m:Str->Option Value)(x:Str)(u:Value):Prop :=
 (env.kindOf x=some .local/\m x=some u)\/((env.kindOf x=some .cell\/env.kindOf x=some .free)/\∃ c,env.cells.lookup x=some c/\h.IsCell c (some u))
structure Cx.Ok(X:Cx):Prop where
 mod:Mod X.K X.mg X.base
 kind:X.env.scope.kind = .function
 glob:X.env.globals=mainGlobals
 blt:X.env.builtins=builtinsNs
 above:X.s₀.heap.objs.size <= X.env.locals
 inj:∀ x y c,X.env.cells.lookup x=some c->X.env.cells.lookup y=some c->x=y
 has:∀ x,(X.env.kindOf x=some .cell\/X.env.kindOf x=some .free)->∃ c,X.env.cells.lookup x=some c
 cab:∀ x c,X.fn x=true->X.env.cells.lookup x=some c->X.s₀.heap.objs.size <= c
 hd:X.calm=true->X.A.handled=none
 frames:X.A.frames=some X.stack
 stk:X.stack=X.outer\/(X.stack=X.env :: X.outer/\X.env.frame=some X.env.locals)
 exf:∀ b ∈ X.ex,b ≠ X.env.locals/\∀ x c,X.env.cells.lookup x=some c->c ≠ b
 bs:∀ b o,X.base.get? b=some o->X.s₀.heap.get? b=some o/\X.H₀ b=none
 bsz:X.base.objs.size <= X.s₀.heap.objs.size
 noex:∀ b o,X.base.get? b=some o->b ∉ X.ex
 exfs:∀ b ∈ X.ex,b ∉ X.fs
 funs:X.s₀.heap.FunFrames X.base X.outer
 frf:∀ b ∈ X.fs,X.H₀ b=none
structure Inv(X:Cx)(pins:List (Addr×Obj))(σ:List (Option V))(H:Hp)(s:Shared):Prop where
 ok:X.Ok
 os:s.os=X.s₀.os
 bare:AllBare s.gens
 base:Un X.fs X.ex X.H₀ H X.s₀.heap s.heap
 loc:∃ m,s.heap.Ns X.env.locals m/\∀ (i:Nat) (x:Str) (v:V),X.N[i]?=some x->σ[i]?=some (some v)->Vis X.env.scope x->∃ u,RelV v u/\b9S X.env s.heap m x u
 cell:∀ x c,X.env.cells.lookup x=some c->∃ v,s.heap.IsCell c v
 free:H X.env.locals=none
 freeC:∀ x c,X.env.cells.lookup x=some c->H c=none
 pin:∀ p ∈ X.pn ++ pins,s.heap.get? p.1=some p.2/\H p.1=none/\p.1 ≠ X.env.locals/\p.1 ∉ X.fs/\∀ v,p.2.data ≠ .cell v
 hok:HOk X.prog X.w H s.heap
 len:σ.length=X.N.length
section
variable {X:Cx} {pins:List (Addr×Obj)} {σ:List (Option V)} {H H':Hp} {s:Shared} {h':Heap}
theorem Cx.Ok.nofr(ok:X.Ok){b:Addr}{o:Obj}(e:X.base.get? b=some o):b ∉ X.fs:=fun hb=>by
 have:=(ok.funs.mem hb).1
 rw [e] at this;cases this
theorem Inv.bs(I:Inv X pins σ H s):∀ b o,X.base.get? b=some o->s.heap.get? b=some o/\H b=none:=fun b o e =>
 ⟨I.base.keep b o (I.ok.bs b o e).1 (I.ok.bs b o e).2 (I.ok.nofr e) (I.ok.noex b o e),I.base.free b o (I.ok.bs b o e).1 (I.ok.bs b o e).2 (I.ok.noex b o e)⟩
theorem Inv.bk(I:Inv X pins σ H s):∀ b o,X.base.get? b=some o->s.heap.get? b=some o:=fun b o e=>(I.bs b o e).1
theorem Inv.mod(I:Inv X pins σ H s):Mod X.K X.mg X.base:=I.ok.mod
theorem Inv.kIn(I:Inv X pins σ H s):X.K.In s.heap:=I.ok.mod.kin.keeps I.bk
theorem Inv.lt(I:Inv X pins σ H s):X.env.locals < s.heap.objs.size:=let ⟨_,hn,_⟩:=I.loc;hn.lt
theorem Inv.sz(I:Inv X pins σ H s):X.s₀.heap.objs.size <= s.heap.objs.size:=Nat.le_trans I.ok.above (Nat.le_of_lt I.lt)
theorem Inv.nofs(I:Inv X pins σ H s){a:Addr}(h:s.heap.objs.size <= a):a ∉ X.fs:=fun hb=>by
 obtain ⟨_,o,ho,_⟩:=I.ok.funs.mem hb;exact absurd (Nat.lt_of_lt_of_le (Heap.lt_size ho) (Nat.le_trans I.sz h)) (Nat.lt_irrefl _)
theorem Inv.cne(I:Inv X pins σ H s):∀ x c,X.env.cells.lookup x=some c->c ≠ X.env.locals:=fun x c e z=>by
 obtain ⟨v,o,ho,hd⟩:=I.cell x c e;obtain ⟨m,⟨o',es,ep,ho',hd',_⟩,_⟩:=I.loc;rw [z,ho'] at ho;cases ho;rw [hd'] at hd;cases hd
theorem Inv.funs(I:Inv X pins σ H s):s.heap.FunFrames X.base X.outer:=by
 have all:∀ (l:List Env),(∀ b ∈ frs l,b ∈ X.fs)->X.s₀.heap.FunFrames X.base l->s.heap.FunFrames X.base l:=by
  intro l
  induction l with
  |nil=>intro _ _;trivial
  |cons env r ih =>
   intro hs hl;obtain ⟨hk,⟨L,o,hf,hn,ho,hd⟩,hr⟩:=hl;have hL:L ∈ X.fs:=hs L (by unfold frs;rw [List.filterMap_cons,hf];exact List.mem_cons_self);obtain ⟨sl,e⟩:=I.base.slot L o ho (I.ok.frf L hL) hL fun z=>I.ok.exfs L z hL;exact ⟨hk,⟨L,_,hf,hn,e,hd⟩,ih (fun b hb=>hs b (by unfold frs;rw [List.filterMap_cons,hf];exact List.mem_cons_of_mem _ hb)) hr⟩
 exact all X.outer (fun _ hb=>hb) I.ok.funs
theorem Inv.stack(I:Inv X pins σ H s):s.heap.FunFrames X.base X.stack:=by
 rcases I.ok.stk with e | ⟨e,hf⟩
 ·rw [e];exact I.funs
 ·rw [e];obtain ⟨m,hn,_⟩:=I.loc;refine .cons (by rw [I.ok.kind];decide) hf hn ?_ I.funs;exact Heap.get?_none_of_le (Nat.le_trans I.ok.bsz I.ok.above)
theorem Inv.stkSub(I:Inv X pins σ H s):∀ b ∈ frs X.stack,b ∈ X.env.locals :: X.fs:=fun b hb=>by
 rcases I.ok.stk with e | ⟨e,hf⟩
 ·rw [e] at hb;exact List.mem_cons_of_mem _ hb
 ·rw [e] at hb;unfold frs at hb;rw [List.filterMap_cons,hf] at hb;exact hb
theorem Inv.stkFree(I:Inv X pins σ H s):∀ b ∈ frs X.stack,H b=none:=fun b hb=>by
 rcases List.mem_cons.mp (I.stkSub b hb) with e | hb
 ·rw [e];exact I.free
 ·obtain ⟨_,o,ho,_⟩:=I.ok.funs.mem hb;exact I.base.free b o ho (I.ok.frf b hb) fun z=>I.ok.exfs b z hb
theorem Inv.step{g':Array GenState}{t':Nat}{d':Drawn}{ch:List Addr}(I:Inv X pins σ H s)
  (hch:∀ b ∈ ch,(b ∈ X.ex\/X.s₀.heap.objs.size <= b)/\b ≠ X.env.locals/\(∀ x c,X.env.cells.lookup x=some c->c ≠ b)/\∀ p ∈ X.pn ++ pins,p.1 ≠ b)
  (keep:∀ b o,b ≠ X.env.locals->b ∉ X.fs->b ∉ ch->s.heap.get? b=some o->H b=none->h'.get? b=some o)
  (slot:∀ b o,b ≠ X.env.locals->b ∈ X.fs->b ∉ ch->s.heap.get? b=some o->H b=none->∃ sl,h'.get? b=some { o with slots:=sl }) (free:∀ b o,b ∉ ch->s.heap.get? b=some o->H b=none->H' b=none)
  (there:∀ b o,b ∉ ch->s.heap.get? b=some o->∃ o',h'.get? b=some o')
  (tups:∀ b xs,H b=some (.tup xs)->H' b=some (.tup xs)) (frzs:∀ b o u,H b=some (.frz o u)->H' b=some (.frz o u)) (tbls:∀ b ps,H b=some (.tbl ps)->∃ more,H' b=some (.tbl (ps ++ more)))
  (ns:∀ m,s.heap.Ns X.env.locals m->h'.Ns X.env.locals m) (hok:HOk X.prog X.w H' h') (hg:AllBare g') :
  Inv X pins σ H' { s with heap:=h',gens:=g',drawn:=d',toks:=t' }:=by
 have neL:∀ b o,X.s₀.heap.get? b=some o->b ≠ X.env.locals:=fun b o e=>Nat.ne_of_lt (Nat.lt_of_lt_of_le (Heap.lt_size e) I.ok.above)
 have neC:∀ b o,X.s₀.heap.get? b=some o->b ∉ X.ex->b ∉ ch:=fun b o e hx hb=>by
  rcases (hch b hb).1 with z | z
  ·exact hx z
  ·exact absurd (Nat.lt_of_lt_of_le (Heap.lt_size e) z) (Nat.lt_irrefl _)
 have cellK:∀ x c,X.env.cells.lookup x=some c->∀ v,s.heap.IsCell c v->h'.IsCell c v:=fun x c e v zz0=>by
  obtain ⟨o,ho,hd⟩:=zz0;have nch:c ∉ ch:=fun z=>(hch c z).2.2.1 x c e rfl
  by_cases hc:c ∈ X.fs
  ·obtain ⟨sl,q⟩:=slot c o (I.cne x c e) hc nch ho (I.freeC x c e);exact ⟨_,q,hd⟩
  ·exact ⟨o,keep c o (I.cne x c e) hc nch ho (I.freeC x c e),hd⟩
 refine ⟨I.ok,I.os,hg,⟨fun b o e n hb hx=>?_,fun b o e n hb hx=>?_,fun b o e n hx=>?_,fun b o e hx=>?_,fun b xs e=>tups b xs (I.base.tups b xs e),fun b o xs e=>frzs b o xs (I.base.frzs b o xs e),fun b ps e=>?_⟩,?_,fun x c e=>?_,?_,fun x c e=>?_,fun p hp=>?_,hok,I.len⟩
 ·exact keep b o (neL b o e) hb (neC b o e hx) (I.base.keep b o e n hb hx) (I.base.free b o e n hx)
 ·obtain ⟨sl,e1⟩:=I.base.slot b o e n hb hx;obtain ⟨sl',e2⟩:=slot b _ (neL b o e) hb (neC b o e hx) e1 (I.base.free b o e n hx);exact ⟨sl',e2⟩
 ·obtain ⟨o',e1⟩:=I.base.there b o e hx;exact free b o' (neC b o e hx) e1 (I.base.free b o e n hx)
 ·obtain ⟨o',e1⟩:=I.base.there b o e hx;exact there b o' (neC b o e hx) e1
 ·obtain ⟨m1,e1⟩:=I.base.tbls b ps e;obtain ⟨m2,e2⟩:=tbls b _ e1;exact ⟨m1 ++ m2,by rw [e2,Array.append_assoc]⟩
 ·obtain ⟨m,hn,hl⟩:=I.loc;refine ⟨m,ns m hn,fun i x v e1 e2 e3=>?_⟩;obtain ⟨u,r,l⟩:=hl i x v e1 e2 e3;refine ⟨u,r,?_⟩
  rcases l with l | ⟨k,c,e,z⟩
  ·exact .inl l
  ·exact .inr ⟨k,c,e,cellK x c e _ z⟩
 ·obtain ⟨v,z⟩:=I.cell x c e;exact ⟨v,cellK x c e v z⟩
 ·obtain ⟨m,⟨o,_,_,ho,_⟩,_⟩:=I.loc;exact free _ o (fun z=>(hch _ z).2.1 rfl) ho I.free
 ·obtain ⟨v,o,ho,hd⟩:=I.cell x c e;exact free c o (fun z=>(hch c z).2.2.1 x c e rfl) ho (I.freeC x c e)
 ·obtain ⟨e,n,ne,nf,d⟩:=I.pin p hp;have nch:p.1 ∉ ch:=fun z=>(hch p.1 z).2.2.2 p hp rfl;exact ⟨keep p.1 p.2 ne nf nch e n,free p.1 p.2 nch e n,ne,nf,d⟩
theorem Inv.un{t':Nat}(I:Inv X pins σ H s)(u:Un X.fs [] H H' s.heap h')(hok:HOk X.prog X.w H' h'):Inv X pins σ H' { s with heap:=h',toks:=t' }:=by
 obtain ⟨m,⟨o,es,ep,ho,r⟩,_⟩:=id I.loc;obtain ⟨sl,hL⟩:=u.any ho I.free (by simp)
 exact I.step (g':=s.gens) (d':=s.drawn) (ch:=[]) (fun _ z=>nomatch z) (fun b o _ hb _ e n=>u.keep b o e n hb (by simp)) (fun b o _ hb _ e n=>u.slot b o e n hb (by simp)) (fun b o _ e n=>u.free b o e n (by simp)) (fun b o _ e=>u.there b o e (by simp)) u.tups u.frzs u.tbls (fun m' hm=>by
  obtain ⟨o',es',ep',ho',r'⟩:=hm;rw [ho] at ho';cases ho'
  exact ⟨_,es',ep',hL,r'⟩) hok I.bare
theorem Inv.call{g':Array GenState}{t':Nat}{d':Drawn}{ch:List Addr}(I:Inv X pins σ H s)(u:Un (frs X.stack) ch H H' s.heap h')(hok:HOk X.prog X.w H' h')(hg:AllBare g')
  (hch:∀ b ∈ ch,(b ∈ X.ex\/X.s₀.heap.objs.size <= b)/\b ≠ X.env.locals/\(∀ x c,X.env.cells.lookup x=some c->c ≠ b)/\∀ p ∈ X.pn ++ pins,p.1 ≠ b) :
  Inv X pins σ H' { s with heap:=h',gens:=g',drawn:=d',toks:=t' }:=by
 obtain ⟨m,⟨o,es,ep,ho,r⟩,_⟩:=id I.loc;obtain ⟨sl,hL⟩:=u.any ho I.free fun z=>(hch _ z).2.1 rfl
 exact I.step (ch:=ch) hch (fun b o hL hb hc e n=>u.keep b o e n (fun z=>(List.mem_cons.mp (I.stkSub b z)).elim hL hb) hc) (fun b o _ _ hc e n=>u.any e n hc) (fun b o hc e n=>u.free b o e n hc) (fun b o hc e=>u.there b o e hc) u.tups u.frzs u.tbls (fun m' hm=>by
  obtain ⟨o',es',ep',ho',r'⟩:=hm;rw [ho] at ho';cases ho'
  exact ⟨_,es',ep',hL,r'⟩) hok hg
theorem Inv.turned{t':Nat}{it:Addr}(I:Inv X pins σ H s)(k:∀ b o,b ≠ it->s.heap.get? b=some o->h'.get? b=some o)(hn:H it=none)(hL:it ≠ X.env.locals)
  (h1:it ∈ X.ex\/X.s₀.heap.objs.size <= it) (h2:∀ x c,X.env.cells.lookup x=some c->c ≠ it) (h3:∀ p ∈ X.pn ++ pins,p.1 ≠ it):Inv X pins σ H { s with heap:=h',toks:=t' }:=by
 have nit:∀ b u,H b=some u->b ≠ it:=fun b u e z=>by rw [z,hn] at e;cases e
 refine I.step (g':=s.gens) (d':=s.drawn) (ch:=[it]) (fun b hb=>?_) (fun b o _ _ hc e _=>k b o (fun z=>hc (by simp [z])) e) (fun b o _ _ hc e _=>⟨o.slots,k b o (fun z=>hc (by simp [z])) e⟩) (fun _ _ _ _ n=>n)
  (fun b o hc e=>⟨o,k b o (fun z=>hc (by simp [z])) e⟩) (fun _ _ e=>e) (fun _ _ _ e=>e) (fun b ps e=>⟨#[],by rw [e];simp⟩) (fun m hm=>?_) (fun b u e=>?_) I.bare
 ·have e:b=it:=by simpa using hb
  subst e;exact ⟨h1,hL,h2,h3⟩
 ·obtain ⟨o,es,ep,ho,r⟩:=hm;exact ⟨o,es,ep,k _ o (Ne.symm hL) ho,r⟩
 ·refine (I.hok b u e).stay (fun c v hc q=>k c v ?_ q) (fun _ q=>q) fun _ _ q=>q
  rcases hc with z | z
  ·rw [z];exact nit b u e
  ·exact nit c _ z
theorem Inv.tok(I:Inv X pins σ H s)(t:Nat):Inv X pins σ H { s with toks:=t }:=I.un (h':=s.heap) (t':=t) Un.refl I.hok
theorem Inv.kept{t':Nat}(I:Inv X pins σ H s)(k:∀ b u,s.heap.get? b=some u->h'.get? b=some u):Inv X pins σ H { s with heap:=h',toks:=t' }:=I.un (Un.kept k) (I.hok.kept k)
theorem Inv.laid{a:Addr}{o:HO}{t':Nat}(I:Inv X pins σ H s)(k:∀ b u,s.heap.get? b=some u->h'.get? b=some u)(hp:s.heap.objs.size <= a)(new:ObjOk X.prog X.w (upd H a o) h' a o) :
  Inv X pins σ (upd H a o) { s with heap:=h',toks:=t' }:=I.un (Un.laid k hp (I.hok.fresh hp)) (I.hok.laid k hp new)
theorem Inv.write{x e:Addr}{o:HO}{t':Nat}(I:Inv X pins σ H s)(mu:Mut (H x))(he:e=x\/H e=some (.own x))(k:∀ b u,b ≠ e->s.heap.get? b=some u->h'.get? b=some u)(heo:∃ u,h'.get? e=some u)
  (new:ObjOk X.prog X.w (upd H x o) h' x o):Inv X pins σ (upd H x o) { s with heap:=h',toks:=t' }:=I.un (Un.write mu he k heo) (I.hok.write mu he k heo new)
theorem Inv.pins_of{pins':List (Addr×Obj)}(I:Inv X pins σ H s)(h:∀ p ∈ pins',s.heap.get? p.1=some p.2/\H p.1=none/\p.1 ≠ X.env.locals/\p.1 ∉ X.fs/\∀ v,p.2.data ≠ .cell v):Inv X pins' σ H s :=
 ⟨I.ok,I.os,I.bare,I.base,I.loc,I.cell,I.free,I.freeC,fun p hp=>(List.mem_append.mp hp).elim (fun z=>I.pin p (List.mem_append_left _ z)) (h p),I.hok,I.len⟩
theorem a1O{N:List Str}(hN:N.Nodup){i j:Nat}{x:Str}(a:N[i]?=some x)(b:N[j]?=some x):i=j:=by
 obtain ⟨h1,e1⟩:=List.getElem?_eq_some_iff.mp a;obtain ⟨h2,e2⟩:=List.getElem?_eq_some_iff.mp b;exact (List.getElem_inj hN).mp (e1.trans e2.symm)
theorem a0p{M:Model}{A:Around}{E:Value->Shared->Prop}{i:Nat}{x:Str}{v:V}{u:Value}{Q:Unit->Shared->Prop}(I:Inv X pins σ H s)(hN:X.N.Nodup)(hi:X.N[i]?=some x)(hx:Loc X.env.scope x)(r:RelV v u)
  (h:∀ s',Inv X pins (σ.set i (some v)) H s'->(∃ a,Heap.SameBut a s.heap s'.heap/\(a=X.env.locals\/X.env.cells.lookup x=some a))->Q () s') (hf:X.fn x=true\/X.env.scope.names.lookup x=some .local:=by trivial):wpAny M A (storeName X.env x u) Q E s:=by
 obtain ⟨m,hn,hl⟩:=id I.loc;have hcls:(X.env.scope.kind == .class || (X.env.scope.kind == .module && X.env.locals != X.env.globals))=false:=by rw [I.ok.kind];rfl
 have hiσ:i < σ.length:=by rw [I.len];exact (List.getElem?_eq_some_iff.mp hi).1
 have cne:=I.cne
 have tracked:∀ {a:Addr} {h':Heap},(∃ o,s.heap.get? a=some o/\H a=none)->Heap.SameBut a s.heap h'->HOk X.prog X.w H h':=fun {a h'} ha hs b ob e=>by
  obtain ⟨_,_,hfree⟩:=ha;refine (I.hok b ob e).stay (fun c w' hc q=>(hs.2 c ?_).trans q) (fun _ q=>q) fun _ _ q=>q
  rintro rfl
  rcases hc with rfl | hc
  ·rw [hfree] at e;cases e
  ·rw [hfree] at hc;cases hc
 rcases hx with hk | hk
 ·refine wpAny_storeName_local hk hn (fun h' hn' hs=>?_) hcls;obtain ⟨oL,_,_,hoL,_⟩:=id hn;refine h _ ⟨I.ok,I.os,I.bare,⟨fun b o e n hb hx=>?_,fun b o e n hb hx=>?_,I.base.free,fun b o e hx=>?_,I.base.tups,I.base.frzs,I.base.tbls⟩,⟨_,hn',fun j y v' e1 e2 e3=>?_⟩,fun y c e=>?_,I.free,I.freeC,fun p hp=>?_,tracked ⟨oL,hoL,I.free⟩ hs,by simpa using I.len⟩ ⟨_,hs,.inl rfl⟩
  ·exact (hs.2 b (Nat.ne_of_lt (Nat.lt_of_lt_of_le (Heap.lt_size e) I.ok.above))).trans (I.base.keep b o e n hb hx)
  ·obtain ⟨sl,e1⟩:=I.base.slot b o e n hb hx;exact ⟨sl,(hs.2 b (Nat.ne_of_lt (Nat.lt_of_lt_of_le (Heap.lt_size e) I.ok.above))).trans e1⟩
  ·obtain ⟨o',e1⟩:=I.base.there b o e hx;exact ⟨o',(hs.2 b (Nat.ne_of_lt (Nat.lt_of_lt_of_le (Heap.lt_size e) I.ok.above))).trans e1⟩
  ·by_cases hj:j=i
   ·subst hj;rw [hi] at e1;cases e1;rw [List.getElem?_set_self hiσ] at e2;cases e2;exact ⟨u,r,.inl ⟨hk,by simp⟩⟩
   ·rw [List.getElem?_set_ne (Ne.symm hj)] at e2;obtain ⟨u',r',q⟩:=hl j y v' e1 e2 e3;refine ⟨u',r',?_⟩
    rcases q with ⟨k,e⟩ | ⟨k,c,e,z⟩
    ·refine .inl ⟨k,?_⟩
     have:y ≠ x:=fun e=>hj (a1O hN e1 (e ▸ hi))
     simp [this,e]
    ·exact .inr ⟨k,c,e,z.sameBut hs (cne y c e)⟩
  ·obtain ⟨w',z⟩:=I.cell y c e;exact ⟨w',z.sameBut hs (cne y c e)⟩
  ·obtain ⟨e,n,ne,nf,d⟩:=I.pin p hp;exact ⟨(hs.2 p.1 ne).trans e,n,ne,nf,d⟩
 ·have hfn:X.fn x=true:=by
   rcases hf with z | z
   ·exact z
   ·rw [z] at hk;cases hk
  obtain ⟨c,hc⟩:=I.ok.has x (.inl hk);obtain ⟨w',z⟩:=I.cell x c hc;refine wpAny_storeName_cell I.ok.kind hk hc z (fun h' hc' hs=>?_);obtain ⟨oc,hoc,hocd⟩:=id z;refine h { s with heap:=h' } ⟨I.ok,I.os,I.bare,⟨fun b o e n hb hx=>?_,fun b o e n hb hx=>?_,I.base.free,fun b o e hx=>?_,I.base.tups,I.base.frzs,I.base.tbls⟩,⟨m,hn.sameBut hs (Ne.symm (cne x c hc)),fun j y v' e1 e2 e3=>?_⟩,fun y c' e=>?_,I.free,I.freeC,fun p hp=>?_,tracked ⟨oc,hoc,I.freeC x c hc⟩ hs,by simpa using I.len⟩ ⟨c,hs,.inr hc⟩
  ·exact (hs.2 b (Nat.ne_of_lt (Nat.lt_of_lt_of_le (Heap.lt_size e) (I.ok.cab x c hfn hc)))).trans (I.base.keep b o e n hb hx)
  ·obtain ⟨sl,e1⟩:=I.base.slot b o e n hb hx;exact ⟨sl,(hs.2 b (Nat.ne_of_lt (Nat.lt_of_lt_of_le (Heap.lt_size e) (I.ok.cab x c hfn hc)))).trans e1⟩
  ·obtain ⟨o',e1⟩:=I.base.there b o e hx;exact ⟨o',(hs.2 b (Nat.ne_of_lt (Nat.lt_of_lt_of_le (Heap.lt_size e) (I.ok.cab x c hfn hc)))).trans e1⟩
  ·by_cases hj:j=i
   ·subst hj;rw [hi] at e1;cases e1;rw [List.getElem?_set_self hiσ] at e2;cases e2;exact ⟨u,r,.inr ⟨.inl hk,c,hc,hc'⟩⟩
   ·rw [List.getElem?_set_ne (Ne.symm hj)] at e2;obtain ⟨u',r',q⟩:=hl j y v' e1 e2 e3;refine ⟨u',r',?_⟩
    rcases q with q | ⟨k,c',e,z'⟩
    ·exact .inl q
    ·refine .inr ⟨k,c',e,z'.sameBut hs ?_⟩
     rintro rfl
     exact hj (a1O hN e1 (I.ok.inj _ _ _ e hc ▸ hi))
  ·by_cases hcc:c'=c
   ·subst hcc;exact ⟨_,hc'⟩
   ·obtain ⟨w2,z2⟩:=I.cell y c' e;exact ⟨w2,z2.sameBut hs hcc⟩
  ·obtain ⟨e,n,ne,nf,d⟩:=I.pin p hp;refine ⟨(hs.2 p.1 ?_).trans e,n,ne,nf,d⟩;intro q;rw [q,hoc] at e;have q':oc=p.2:=Option.some.inj e;exact d w' (by rw [<- q'];exact hocd)
theorem V4{M:Model}{A:Around}{E:Value->Shared->Prop}{i:Nat}{x:Str}{v:V}{u:Value}{Q:Unit->Shared->Prop}(I:Inv X pins σ H s)(hN:X.N.Nodup)(hi:X.N[i]?=some x)(hx:Loc X.env.scope x)(r:RelV v u)
  (h:∀ s',Inv X pins (σ.set i (some v)) H s'->Q () s') (hf:X.fn x=true\/X.env.scope.names.lookup x=some .local:=by trivial):wpAny M A (storeName X.env x u) Q E s :=
 a0p I hN hi hx r (fun s' I' _=>h s' I') hf
theorem Inv.call'{s':Shared}{ch:List Addr}(I:Inv X pins σ H s)(ho:s'.os=s.os)(u:Un (frs X.stack) ch H H' s.heap s'.heap)(hok:HOk X.prog X.w H' s'.heap)(hg:AllBare s'.gens)
  (hch:∀ b ∈ ch,(b ∈ X.ex\/X.s₀.heap.objs.size <= b)/\b ≠ X.env.locals/\(∀ x c,X.env.cells.lookup x=some c->c ≠ b)/\∀ p ∈ X.pn ++ pins,p.1 ≠ b):Inv X pins σ H' s':=by
 obtain ⟨h',g',d',t',o'⟩:=s';have e:o'=s.os:=ho;subst e;exact I.call (g':=g') (t':=t') (d':=d') u hok hg hch
end
abbrev XK:=Value->Option Addr->Hp->Prop
abbrev St:=List (Option V)
abbrev VK:=V->Hp->Prop
abbrev TE:=St->Hp->VK->Prop
abbrev TT:=St->Hp->(Bool->Hp->Prop)->Prop
abbrev TA:=St->Hp->(List V->Hp->Prop)->Prop
structure W6 where
 nx:St->Hp->Prop
 rt:VK
 bk:St->Hp->Prop:=fun _ _=>False
 ct:St->Hp->Prop:=fun _ _=>False
abbrev TS:=W6->St->Hp->Prop
def EP(X:Cx)(pins:List (Addr×Obj))(σ:St)(Q:VK)(u:Value)(s':Shared):Prop:=∃ v H',Inv X pins σ H' s'/\RelV v u/\Q v H'
def TP(X:Cx)(pins:List (Addr×Obj))(σ:St)(Q:Bool->Hp->Prop)(b:Bool)(s':Shared):Prop:=∃ H',Inv X pins σ H' s'/\Q b H'
def AP(X:Cx)(pins:List (Addr×Obj))(σ:St)(Q:List V->Hp->Prop)(us:List Value)(s':Shared):Prop:=∃ vs H',Inv X pins σ H' s'/\Vals vs us/\Q vs H'
def SP(X:Cx)(pins:List (Addr×Obj))(D:W6)(f:Flow)(s':Shared):Prop :=
 match f with
 |.next=>∃ σ' H',Inv X pins σ' H' s'/\D.nx σ' H'
 |.brk=>∃ σ' H',Inv X pins σ' H' s'/\D.bk σ' H'
 |.cont=>∃ σ' H',Inv X pins σ' H' s'/\D.ct σ' H'
 |.ret u=>∃ v σ' H',Inv X pins σ' H' s'/\RelV v u/\D.rt v H'
def PE(X:Cx)(e:Expr)(t:TE):Prop :=
 ∀ (pins:List (Addr×Obj)) (s:Shared) (σ:St) (H:Hp) (Q:VK),Inv X pins σ H s->t σ H Q->wpAny (model X.prog X.w) X.A (eval e X.env) (EP X pins σ Q) X.xe s
def PT(X:Cx)(e:Expr)(t:TT):Prop :=
 ∀ (pins:List (Addr×Obj)) (s:Shared) (σ:St) (H:Hp) (Q:Bool->Hp->Prop),Inv X pins σ H s->t σ H Q->wpAny (model X.prog X.w) X.A (isTrue e X.env (eval e X.env)) (TP X pins σ Q) X.xe s
def PW(X:Cx)(e:Expr)(t:TT):Prop :=
 ∀ (whole:Sem Value) (pins:List (Addr×Obj)) (s:Shared) (σ:St) (H:Hp) (Q:Bool->Hp->Prop),Inv X pins σ H s->t σ H Q->wpAny (model X.prog X.w) X.A (isTrue e X.env whole) (TP X pins σ Q) X.xe s
theorem PW.pt{X:Cx}{e:Expr}{t:TT}(h:PW X e t):PT X e t:=h _
def PA(X:Cx)(es:List Expr)(t:TA):Prop :=
 ∀ (pos:Pos) (pins:List (Addr×Obj)) (s:Shared) (σ:St) (H:Hp) (Q:List V->Hp->Prop),Inv X pins σ H s->t σ H Q->wpAny (model X.prog X.w) X.A (spliced (backTo pos (starEach es X.env))) (AP X pins σ Q) X.xe s
def PS(X:Cx)(st:Stmt)(t:TS):Prop :=
 ∀ (pins:List (Addr×Obj)) (s:Shared) (σ:St) (H:Hp) (D:W6),Inv X pins σ H s->t D σ H->wpAny (model X.prog X.w) X.A (exec st X.env) (SP X pins D) X.xe s
def PSs(X:Cx)(st:List Stmt)(t:TS):Prop :=
 ∀ (pins:List (Addr×Obj)) (s:Shared) (σ:St) (H:Hp) (D:W6),Inv X pins σ H s->t D σ H->wpAny (model X.prog X.w) X.A (execs st X.env) (SP X pins D) X.xe s
theorem thn{α:Type}{t:Sem α}{Q Q':α->Shared->Prop}{M:Model}{A:Around}{E:Value->Shared->Prop}{s:Shared}(h:wpAny M A t Q E s)(hQ:∀ a s,Q a s->Q' a s):wpAny M A t Q' E s:=wpAny_mono h hQ fun _ _ x=>x
end L2
namespace L2
open PySem PySem.Spec PyProof.Rows
section
variable {X:Cx}
def c0i(i:Nat):TE:=fun σ H Q=>∃ v,σ[i]?=some (some v)/\Q v H
def tC(v:V):TE:=fun _ H Q=>Q v H
theorem b6G{i:Nat}{x:Str}{pos:Pos}(hN:X.N[i]?=some x)(hv:Vis X.env.scope x)(hd:(x == ("__debug__":Str))=false:=by decide)(hcd:(x == ("__classdict__":Str))=false:=by decide):PE X (.Name x pos) (c0i i):=by
 intro pins s σ H Q I h;obtain ⟨v,e,h⟩:=h;obtain ⟨m,hn,hl⟩:=I.loc;obtain ⟨u,r,l⟩:=hl i x v hN e hv;have fin:EP X pins σ Q u s:=⟨v,H,I,r,h⟩
 rcases l with ⟨hk,hm⟩ | ⟨hk,c,hc,hcell⟩
 ·exact wpAny_Name (wpAny_loadName_local I.ok.kind hk hn hm fin) hd
 ·rcases hk with hk | hk
  ·exact wpAny_Name (wpAny_loadName_cell I.ok.kind hk hc hcell fin) hd
  ·exact wpAny_Name (wpAny_loadName_free I.ok.kind hk hc hcell fin hcd) hd
theorem a6Y{i j pos}:PE X (.Constant (.int i) j pos) (tC (.int i)):=fun _ _ _ H _ I h=>wpAny_Constant_int ⟨.int i,H,I.tok _,⟨_,rfl⟩,h⟩
theorem b7N{b j pos}:PE X (.Constant (.bool b) j pos) (tC (.bl b)):=fun _ _ _ H _ I h=>Constant_bool ⟨.bl b,H,I,rfl,h⟩
theorem b6E{j pos}:PE X (.Constant .none j pos) (tC .non):=fun _ _ _ H _ I h=>Constant_none ⟨.non,H,I,rfl,h⟩
theorem b6u{x j pos}:PE X (.Constant (.str x) j pos) (tC (.str x)):=fun _ _ _ H _ I h=>Calls.Constant_str ⟨.str x,H,I.tok _,⟨_,rfl⟩,h⟩
def Gl(X:Cx)(x:Str):Prop:=X.env.kindOf x=some .globalImplicit
theorem a3Z{E:Value->Shared->Prop}{pins:List (Addr×Obj)}{s:Shared}{σ:St}{H:Hp}{x:Str}{u:Value}{pos:Pos}{Q:Value->Shared->Prop}(I:Inv X pins σ H s)(hg:Gl X x)(hm:X.mg x=some u)(h:Q u s)
  (hd:(x == ("__debug__":Str))=false:=by decide):wpAny (model X.prog X.w) X.A (eval (.Name x pos) X.env) Q E s :=
 Calls.Name_function_global I.ok.kind hg (Calls.loadGlobal_global (by rw [I.ok.glob];exact I.mod.glob.keeps I.bk) hm h) hd
theorem J9{E:Value->Shared->Prop}{pins:List (Addr×Obj)}{s:Shared}{σ:St}{H:Hp}{x:Str}{u:Value}{pos:Pos}{Q:Value->Shared->Prop}(I:Inv X pins σ H s)(hg:Gl X x)(hm:X.mg x=none)(hv:bootBuiltins x=some u)(h:Q u s)
  (hn:x ≠ "__name__":=by decide) (hd:(x == ("__debug__":Str))=false:=by decide):wpAny (model X.prog X.w) X.A (eval (.Name x pos) X.env) Q E s:=by
 obtain ⟨mb,h1,h2⟩:=I.mod.blt;exact Calls.Name_function_global I.ok.kind hg (Calls.loadGlobal_builtin (by rw [I.ok.glob];exact I.mod.glob.keeps I.bk) hm (by rw [I.ok.blt];exact h1.keeps I.bk) ((h2 x hn).trans hv) h) hd
theorem a0x{x:Str}{v:V}{u:Value}{pos:Pos}(hg:Gl X x)(hm:X.mg x=some u)(r:RelV v u)(hd:(x == ("__debug__":Str))=false:=by decide):PE X (.Name x pos) (tC v) :=
 fun _ _ _ H _ I h=>a3Z I hg hm ⟨v,H,I,r,h⟩ hd
theorem T9{x:Str}{v:V}{u:Value}{pos:Pos}(hg:Gl X x)(hm:X.mg x=none)(hv:bootBuiltins x=some u)(r:RelV v u)(hn:x ≠ "__name__":=by decide)(hd:(x == ("__debug__":Str))=false:=by decide):PE X (.Name x pos) (tC v) :=
 fun _ _ _ H _ I h=>J9 I hg hm hv ⟨v,H,I,r,h⟩ hn hd
variable {a b:Expr} {ta tb:TE} {pos:Pos}
variable {tA tB':TT} {rest:List Expr}
def b9E(t u:TT):TT:=fun σ H Q=>t σ H fun c H1=>if c=true then u σ H1 Q else Q false H1
def tOr(t u:TT):TT:=fun σ H Q=>t σ H fun c H1=>if c=true then Q true H1 else u σ H1 Q
def c0s(t:TT):TT:=fun σ H Q=>t σ H fun c H1=>Q (!c) H1
theorem a9G(ha:PT X a tA):PW X (.BoolOp .And [a] pos) tA:=by
 intro wh pins s σ H Q I h;refine isTrue_and (thn (ha pins s σ H Q I h) fun c s1 e=>?_)
 cases c with
 |true=>exact isTrue_and_nil e
 |false=>exact e
theorem b6e(ha:PT X a tA):PW X (.BoolOp .Or [a] pos) tA:=by
 intro wh pins s σ H Q I h;refine isTrue_or (thn (ha pins s σ H Q I h) fun c s1 e=>?_)
 cases c with
 |false=>exact isTrue_or_nil e
 |true=>exact e
theorem b4w(ha:PT X a tA)(hb:PW X (.BoolOp .And (b :: rest) pos) tB'):PW X (.BoolOp .And (a :: b :: rest) pos) (b9E tA tB'):=by
 intro wh pins s σ H Q I h;refine isTrue_and (thn (ha pins s σ H _ I h) fun c s1 zz0=>?_);obtain ⟨H1,I1,q1⟩:=zz0
 cases c with
 |true=>exact hb wh pins s1 σ H1 Q I1 q1
 |false=>exact ⟨H1,I1,q1⟩
theorem b7t(ha:PT X a tA)(hb:PW X (.BoolOp .Or (b :: rest) pos) tB'):PW X (.BoolOp .Or (a :: b :: rest) pos) (tOr tA tB'):=by
 intro wh pins s σ H Q I h;refine isTrue_or (thn (ha pins s σ H _ I h) fun c s1 zz0=>?_);obtain ⟨H1,I1,q1⟩:=zz0
 cases c with
 |true=>exact ⟨H1,I1,q1⟩
 |false=>exact hb wh pins s1 σ H1 Q I1 q1
theorem b3M(ha:PT X a tA):PT X (.UnaryOp .Not a pos) (c0s tA):=by
 intro pins s σ H Q I h;exact isTrue_not (ha pins s σ H (fun c H1=>Q (!c) H1) I h)
def b8i(ta tb:TE):TE:=fun σ H Q=>ta σ H fun x H1=>∃ c,x = .bl c/\if c=true then tb σ H1 Q else Q (.bl false) H1
theorem b5x{op}{t:TE}(h:PE X a t):PE X (.BoolOp op [a] pos) t:=fun pins s σ H Q I hw=>BoolOp_one (h pins s σ H Q I hw)
theorem b5F(ha:PE X a ta)(hb:PE X (.BoolOp .And (b :: rest) pos) tb):PE X (.BoolOp .And (a :: b :: rest) pos) (b8i ta tb):=by
 intro pins s σ H Q I h;refine BoolOp_and (thn (ha pins s σ H _ I h) fun v s1 zz0=>?_);obtain ⟨x,H1,I1,r1,q1⟩:=zz0;obtain ⟨c,rfl,q1⟩:=q1;cases r1;refine wpAny_truthy_bool ?_
 cases c with
 |true=>exact hb pins s1 σ H1 Q I1 q1
 |false=>exact ⟨.bl false,H1,I1,rfl,q1⟩
def tIf(t:TT)(ta tb:TE):TE:=fun σ H Q=>t σ H fun c H1=>if c=true then ta σ H1 Q else tb σ H1 Q
theorem a7x{c:Expr}(hc:PT X c tA)(ha:PE X a ta)(hb:PE X b tb):PE X (.IfExp c a b pos) (tIf tA ta tb):=by
 intro pins s σ H Q I h;refine wpAny_IfExp (thn (hc pins s σ H _ I h) fun d s1 zz0=>?_);obtain ⟨H1,I1,q1⟩:=zz0
 cases d with
 |true=>exact ha pins s1 σ H1 Q I1 q1
 |false=>exact hb pins s1 σ H1 Q I1 q1
end
end L2
namespace L2
open PySem PySem.Spec PyProof.Rows
def SqL(K:PySem.W.Frag)(H:Hp)(a:Addr)(xs:List V):Prop :=
 Rd H a (.lst xs) \/
  ∃ (o:Obj) (its:Array Value) (n:Nat),K.lookup a=some o/\o.cls = .type "list"/\o.dict=none/\o.data = .seq its n/\its.size <= sizeLine/\Vals xs its.toList
def SqT(K:PySem.W.Frag)(H:Hp)(a:Addr)(xs:List V):Prop :=
 Rd H a (.tup xs) \/
  ∃ (o:Obj) (its:Array Value) (n:Nat),K.lookup a=some o/\o.cls = .type "tuple"/\o.data = .seq its n/\its.size <= sizeLine/\Vals xs its.toList
def c0k:Value->Option V
 |.none=>some .non
 |.bool b=>some (.bl b)
 |.int i _=>some (.int i)
 |.str x _=>some (.str x)
 |.bytes b _=>some (.byt b)
 |.float b _=>some (.flt b)
 |.ref a=>some (.ref a)
 |.type n=>some (.ty n)
 |_=>none
theorem RelV.abs{x:V}{u:Value}(r:RelV x u):c0k u=some x:=by
 cases x with
 |non=>cases r;rfl
 |bl _=>cases r;rfl
 |int _=>obtain ⟨t,rfl⟩:=r;rfl
 |str _=>obtain ⟨t,rfl⟩:=r;rfl
 |byt _=>obtain ⟨t,rfl⟩:=r;rfl
 |flt _=>obtain ⟨t,rfl⟩:=r;rfl
 |ref _=>cases r;rfl
 |ty _=>cases r;rfl
theorem RelV.inj{x y:V}{u:Value}(r:RelV x u)(q:RelV y u):x=y:=Option.some.inj (r.abs.symm.trans q.abs)
theorem Vals.inj{xs ys:List V}{us:List Value}(h:Vals xs us)(h':Vals ys us):xs=ys:=by
 induction h generalizing ys with
 |nil=>cases h';rfl
 |cons r _ ih =>
  cases h' with
  |cons r' t'=>rw [r.inj r',ih t']
section
variable {X:Cx} {pins:List (Addr×Obj)} {σ:St} {H:Hp} {s:Shared} {a:Addr} {xs ys:List V}
theorem SqL.of{K:PySem.W.Frag}(h:H a=some (.lst xs)):SqL K H a xs:=.inl (.inl h)
theorem Inv.list(I:Inv X pins σ H s)(h:SqL X.K H a xs):∃ its:List Value,Vals xs its/\PlainL s.heap a its.toArray/\xs.length <= sizeLine:=by
 rcases h with h | ⟨o,its,n,hk,hc,hd,hs,hz,r⟩
 ·obtain ⟨z,its,n,r,e⟩:=h.ok I.hok;exact ⟨its,r,⟨_,n,e,rfl,rfl,rfl⟩,z⟩
 ·refine ⟨its.toList,r,⟨o,n,I.kIn a o hk,hc,hd,by simpa using hs⟩,?_⟩;have e:=r.length;simp only [Array.length_toList] at e;omega
theorem Inv.tuple(I:Inv X pins σ H s)(h:SqT X.K H a xs):∃ its:List Value,Vals xs its/\IsTup s.heap a its.toArray/\xs.length <= sizeLine:=by
 rcases h with h | ⟨o,its,n,hk,hc,hs,hz,r⟩
 ·obtain ⟨z,its,r,p⟩:=h.ok I.hok;exact ⟨its,r,p,z⟩
 ·refine ⟨its.toList,r,⟨o,I.kIn a o hk,hc,n,by simpa using hs⟩,?_⟩;have e:=r.length;simp only [Array.length_toList] at e;omega
theorem Inv.list_inj(I:Inv X pins σ H s)(h:SqL X.K H a xs)(h':SqL X.K H a ys):xs=ys:=by
 obtain ⟨its,r,⟨o,n,e,_,_,d⟩,_⟩:=I.list h;obtain ⟨its',r',⟨o',n',e',_,_,d'⟩,_⟩:=I.list h';rw [e] at e';cases e'
 rw [d] at d'
 injection d' with d1 _
 have:its=its':=by simpa using congrArg Array.toList d1
 subst this;exact r.inj r'
theorem Inv.tuple_inj(I:Inv X pins σ H s)(h:SqT X.K H a xs)(h':SqT X.K H a ys):xs=ys:=by
 obtain ⟨its,r,⟨o,e,_,n,d⟩,_⟩:=I.tuple h;obtain ⟨its',r',⟨o',e',_,n',d'⟩,_⟩:=I.tuple h';rw [e] at e';cases e'
 rw [d] at d'
 injection d' with d1 _
 have:its=its':=by simpa using congrArg Array.toList d1
 subst this;exact r.inj r'
end
abbrev Cx.wish(X:Cx)(E:Value->Shared->Prop):Cx:={ X with xe:=E }
abbrev Cx.nox(X:Cx):Cx:=X.wish fun _ _=>False
theorem Cx.Ok.wish{X:Cx}(ok:X.Ok)(E:Value->Shared->Prop):(X.wish E).Ok :=
 ⟨ok.mod,ok.kind,ok.glob,ok.blt,ok.above,ok.inj,ok.has,ok.cab,ok.hd,ok.frames,ok.stk,ok.exf,ok.bs,ok.bsz,ok.noex,ok.exfs,ok.funs,ok.frf⟩
theorem Cx.Ok.unwish{X:Cx}{E:Value->Shared->Prop}(ok:(X.wish E).Ok):X.Ok :=
 ⟨ok.mod,ok.kind,ok.glob,ok.blt,ok.above,ok.inj,ok.has,ok.cab,ok.hd,ok.frames,ok.stk,ok.exf,ok.bs,ok.bsz,ok.noex,ok.exfs,ok.funs,ok.frf⟩
section
variable {X:Cx} {pins:List (Addr×Obj)} {σ:St} {H:Hp} {s:Shared} {E:Value->Shared->Prop}
theorem Inv.wish(I:Inv X pins σ H s)(E:Value->Shared->Prop):Inv (X.wish E) pins σ H s:=⟨I.ok.wish E,I.os,I.bare,I.base,I.loc,I.cell,I.free,I.freeC,I.pin,I.hok,I.len⟩
theorem Inv.unwish(I:Inv (X.wish E) pins σ H s):Inv X pins σ H s:=⟨I.ok.unwish,I.os,I.bare,I.base,I.loc,I.cell,I.free,I.freeC,I.pin,I.hok,I.len⟩
theorem SP.unwish{D:W6}{f:Flow}{s':Shared}(h:SP (X.wish E) pins D f s'):SP X pins D f s':=by
 cases f with
 |next=>obtain ⟨σ',H',I,q⟩:=h;exact ⟨σ',H',I.unwish,q⟩
 |brk=>obtain ⟨σ',H',I,q⟩:=h;exact ⟨σ',H',I.unwish,q⟩
 |cont=>obtain ⟨σ',H',I,q⟩:=h;exact ⟨σ',H',I.unwish,q⟩
 |ret u=>obtain ⟨v,σ',H',I,r,q⟩:=h;exact ⟨v,σ',H',I.unwish,r,q⟩
theorem PSs.nox{st:List Stmt}{t:TS}(h:PSs X.nox st t):PSs X st t:=fun pins s σ H D I hw =>
 wpAny_mono (h pins s σ H D (I.wish _) hw) (fun _ _ q=>q.unwish) fun _ _ z=>False.elim z
end
section
variable {X:Cx} {st:Stmt} {rest:List Stmt} {t u:TS} {e:Expr} {te:TE} {pos:Pos}
def b7H:TS:=fun D σ H=>D.nx σ H
def b8e(t u:TS):TS:=fun D σ H=>t { D with nx:=u D } σ H
theorem a9Z:PSs X [] b7H:=fun _ _ σ H _ I h=>wpAny_execs_nil ⟨σ,H,I,h⟩
theorem a8g(h1:PS X st t)(h2:PSs X rest u):PSs X (st :: rest) (b8e t u):=by
 intro pins s σ H D I h;refine wpAny_execs_cons (thn (h1 pins s σ H { D with nx:=u D } I h) fun f s1 q=>?_)
 cases f with
 |next =>
  obtain ⟨σ',H',I',q⟩:=q;exact h2 pins s1 σ' H' D I' q
 |ret v=>exact q
 |brk=>exact q
 |cont=>exact q
theorem a9K(h1:PS X st t):PSs X [st] t:=by
 intro pins s σ H D I h;refine wpAny_execs_cons (thn (h1 pins s σ H D I h) fun f s1 q=>?_)
 cases f with
 |next=>exact wpAny_execs_nil q
 |ret v=>exact q
 |brk=>exact q
 |cont=>exact q
theorem Inv.quiet{pins:List (Addr×Obj)}{σ:St}{H:Hp}{s:Shared}(I:Inv X pins σ H s):interactive X.env=false:=by simp [interactive,I.ok.kind]
def b8C(te:TE):TS:=fun D σ H=>te σ H fun _ H1=>D.nx σ H1
theorem b0t(he:PE X e te)(hs:swapsWith e none pos.line X.env=pure false:=by rfl):PS X (.Expr e pos) (b8C te):=by
 intro pins s σ H D I h;exact wpAny_Expr_any (thn (he pins s σ H _ I h) fun v s1 ⟨x,H1,I1,r1,q1⟩=>⟨σ,H1,I1,q1⟩) I.quiet hs
def b9D(te:TE):TS:=fun D σ H=>te σ H D.rt
theorem b3Z(he:PE X e te):PS X (.Return (some e) pos) (b9D te):=by
 intro pins s σ H D I h;exact wpAny_Return_some (thn (he pins s σ H _ I h) fun v s1 ⟨x,H1,I1,r1,q1⟩=>⟨x,σ,H1,I1,r1,q1⟩)
def b9T(c:TT)(t u:TS):TS:=fun D σ H=>c σ H fun b H1=>if b=true then t D σ H1 else u D σ H1
theorem b7o{c:Expr}{a b:List Stmt}{tc:TT}(hc:PT X c tc)(ha:PSs X a t)(hb:PSs X b u):PS X (.If c a b pos) (b9T tc t u):=by
 intro pins s σ H D I h;refine wpAny_If (thn (hc pins s σ H _ I h) fun d s1 zz0=>?_);obtain ⟨H1,I1,q1⟩:=zz0
 cases d with
 |true=>exact ha pins s1 σ H1 D I1 q1
 |false=>exact hb pins s1 σ H1 D I1 q1
def b5m:TS:=fun _ _ _=>False
theorem a6F:PS X st b5m:=fun _ _ _ _ _ _ h=>h.elim
end
abbrev TG:=V->St->Hp->(St->Hp->Prop)->Prop
abbrev TGs:=List V->St->Hp->(St->Hp->Prop)->Prop
def PG(X:Cx)(target:Expr)(t:TG):Prop :=
 ∀ (pins:List (Addr×Obj)) (s:Shared) (σ:St) (H:Hp) (v:V) (u:Value) (Q:St->Hp->Prop),Inv X pins σ H s->RelV v u->t v σ H Q ->
  wpAny (model X.prog X.w) X.A (assign target X.env u) (fun _ s'=>∃ σ' H',Inv X pins σ' H' s'/\Q σ' H') X.xe s
def PGs(X:Cx)(ts:List Expr)(t:TGs):Prop :=
 ∀ (pins:List (Addr×Obj)) (s:Shared) (σ:St) (H:Hp) (vs:List V) (us:List Value) (Q:St->Hp->Prop),Inv X pins σ H s->Vals vs us->t vs σ H Q ->
  wpAny (model X.prog X.w) X.A (assignInOrder ((assignEach ts X.env).map (·.2)) us) (fun _ s'=>∃ σ' H',Inv X pins σ' H' s'/\Q σ' H') X.xe s
abbrev b4o:=V->V->V->Hp->(Hp->Prop)->Prop
def b8y(X:Cx)(t:b4o):Prop :=
 ∀ (pins:List (Addr×Obj)) (s:Shared) (σ:St) (H:Hp) (o i v:V) (ov iv u:Value) (Q:Hp->Prop),Inv X pins σ H s->RelV o ov->RelV i iv->RelV v u->t o i v H Q ->
  wpAny (model X.prog X.w) X.A (setItem ov iv u) (fun _ s'=>∃ H',Inv X pins σ H' s'/\Q H') X.xe s
abbrev TIp:=V->V->Hp->VK->Prop
def PIp(X:Cx)(op:Operator)(t:TIp):Prop :=
 ∀ (pins:List (Addr×Obj)) (s:Shared) (σ:St) (H:Hp) (x y:V) (v u:Value) (Q:VK),Inv X pins σ H s->RelV x v->RelV y u->t x y H Q ->
  wpAny (model X.prog X.w) X.A (inplaceOp op v u) (EP X pins σ Q) X.xe s
section
variable {X:Cx} {pos:Pos}
def a0k(i:Nat):TG:=fun v σ H Q=>Q (σ.set i (some v)) H
theorem b1D{i:Nat}{x:Str}(hN:X.N.Nodup)(hi:X.N[i]?=some x)(hx:Loc X.env.scope x)(hf:X.fn x=true\/X.env.scope.names.lookup x=some .local:=by trivial):PG X (.Name x pos) (a0k i):=by
 intro pins s σ H v u Q I r h;exact wpAny_assign_Name (V4 I hN hi hx r (fun s' I'=>⟨_,H,I',h⟩) hf)
def c0b:TGs:=fun vs σ H Q=>vs=[]/\Q σ H
def b7Z(t:TG)(u:TGs):TGs:=fun vs σ H Q=>∃ v r,vs=v :: r/\t v σ H fun σ' H'=>u r σ' H' Q
theorem b1V:PGs X [] c0b:=by
 intro pins s σ H vs us Q I r h;obtain ⟨e,h⟩:=h;subst e;cases r;exact assignInOrder_nil ⟨σ,H,I,h⟩
theorem a5O{e:Expr}{es:List Expr}{t:TG}{u:TGs}(h1:PG X e t)(h2:PGs X es u)
  (hs:(assignEach (e :: es) X.env).map (·.2)=assign e X.env :: (assignEach es X.env).map (·.2):=by rfl):PGs X (e :: es) (b7Z t u):=by
 intro pins s σ H vs us Q I r h;obtain ⟨v,vr,e1,h⟩:=h;subst e1
 cases r with
 |cons r rr =>
  rw [hs];refine assignInOrder_cons (thn (h1 pins s σ H _ _ _ I r h) fun _ s1 zz0=>?_);obtain ⟨σ1,H1,I1,q1⟩:=zz0;exact h2 pins s1 σ1 H1 _ _ Q I1 rr q1
def c0r(K:PySem.W.Frag)(n:Nat)(t:TGs):TG:=fun v σ H Q=>∃ a xs,v = .ref a/\SqT K H a xs/\xs.length=n/\t xs σ H Q
theorem b5U{es:List Expr}{k:Nat}{t:TGs}{n:Nat}(hc:X.calm=true)(h:PGs X es t)
  (hn:(assignEach es X.env).length=n:=by rfl) (hst:(assignEach es X.env).findIdx? (·.1)=none:=by rfl):PG X (.Tuple es k pos) (c0r X.K n t):=by
 intro pins s σ H v u Q I r hw;obtain ⟨a,xs,e1,hq,hl,hw⟩:=hw;subst e1;cases r;obtain ⟨its,rv,ht,hz⟩:=I.tuple hq;refine assign_Tuple_tuple (I.ok.hd hc) ht (by simp [hn,<- hl,rv.length]) hst fun h' hx=>?_;have I1:Inv X pins σ H { s with heap:=h' }:=I.kept (t':=s.toks) fun b o e=>hx b o (Nat.ne_of_lt (Heap.lt_size e)) e;exact h pins _ σ H xs _ Q I1 (by simpa using rv) hw
def b9N(to ti:TE)(t:b4o):TG:=fun v σ H Q=>to σ H fun o H1=>ti σ H1 fun i H2=>t o i v H2 fun H3=>Q σ H3
theorem b5I{o i:Expr}{to ti:TE}{t:b4o}(ho:PE X o to)(hi:PE X i ti)(hs:b8y X t)
  (ha:∀ v,assign (.Subscript o i pos) X.env v=(do
   let ov <- holding [v] (eval o X.env)
   let iv <- holding [v,ov] (eval i X.env)
   standAt pos
   holding [v,ov,iv] (setItem ov iv v)
   release [v,ov,iv] []):=by intro _;rfl):PG X (.Subscript o i pos) (b9N to ti t):=by
 intro pins s σ H v u Q I r h;rw [ha];refine wpAny_bind (wpAny_holding (thn (ho pins s σ H _ I h) fun ov s1 zz0=>?_));obtain ⟨x,H1,I1,r1,q1⟩:=zz0;refine wpAny_bind (wpAny_holding (thn (hi pins s1 σ H1 _ I1 q1) fun iv s2 zz0=>?_));obtain ⟨y,H2,I2,r2,q2⟩:=zz0;refine wpAny_bind (wpAny_standAt (wpAny_bind (wpAny_holding (thn (hs pins s2 σ H2 x y v ov iv u _ I2 r1 r2 r q2) fun _ s3 zz0=>?_))));obtain ⟨H3,I3,q3⟩:=zz0;exact wpAny_release ⟨σ,H3,I3,q3⟩
def a7f(te:TE)(g:TG):TS:=fun D σ H=>te σ H fun x H1=>g x σ H1 D.nx
theorem b5g{tg e:Expr}{te:TE}{g:TG}(he:PE X e te)(hg:PG X tg g)(hs:swapsWithSole [tg] e pos.line X.env=pure false:=by rfl)(hw:swappedStores [tg] e X.env=pure none:=by rfl)
  (h1:(assignEach [tg] X.env).map (·.2)=[assign tg X.env]:=by rfl):PS X (.Assign [tg] e pos) (a7f te g):=by
 intro pins s σ H D I h;refine wpAny_Assign_stores (thn (he pins s σ H _ I h) fun v s1 ⟨x,H1,I1,r1,q1⟩=>?_) hs hw;rw [h1];exact thn (hg pins s1 σ H1 x v _ I1 r1 q1) fun _ s2 q=>q
theorem b3B{i:Nat}{x:Str}{e:Expr}{te:TE}{pos':Pos}(hN:X.N.Nodup)(hi:X.N[i]?=some x)(hx:Loc X.env.scope x)(he:PE X e te)(hs:swapsWith e (some (.Name x pos')) pos.line X.env=pure false:=by rfl)(hf:X.fn x=true\/X.env.scope.names.lookup x=some .local:=by trivial) :
  PS X (.Assign [.Name x pos'] e pos) (a7f te (a0k i)):=by
 intro pins s σ H D I h;refine wpAny_Assign_Name (thn (he pins s σ H _ I h) fun v s1 zz0=>?_) hs;obtain ⟨y,H1,I1,r1,q1⟩:=zz0;exact V4 I1 hN hi hx r1 (fun s2 I2=>⟨_,H1,I2,q1⟩) hf
def c0p(i:Nat)(te:TE)(ti:TIp):TS:=fun D σ H=>∃ x,σ[i]?=some (some x)/\te σ H fun y H1=>ti x y H1 fun z H2=>D.nx (σ.set i (some z)) H2
theorem b5v{i:Nat}{x:Str}{e:Expr}{te:TE}{op:Operator}{ti:TIp}{pos':Pos}(hN:X.N.Nodup)(hi:X.N[i]?=some x)(hx:Loc X.env.scope x)(he:PE X e te)(ho:PIp X op ti)(hf:X.fn x=true\/X.env.scope.names.lookup x=some .local:=by trivial) :
  PS X (.AugAssign (.Name x pos') op e pos) (c0p i te ti):=by
 intro pins s σ H D I h;obtain ⟨v,e1,h⟩:=h;obtain ⟨m,hn,hl⟩:=I.loc;have vis:Vis X.env.scope x:=by rcases hx with k | k;exact .inl k;exact .inr (.inl k)
 obtain ⟨u,r,l⟩:=hl i x v hi e1 vis;refine wpAny_AugAssign_Name ?_
 have go:wpAny (model X.prog X.w) X.A (eval e X.env) (fun w s₂=>wpAny (model X.prog X.w) X.A (inplaceOp op u w) (fun r s₃=>wpAny (model X.prog X.w) X.A (storeName X.env x r) (fun _=>SP X pins D .next) X.xe s₃) X.xe s₂) X.xe s:=by
  refine thn (he pins s σ H _ I h) fun w s1 zz0=>?_;obtain ⟨y,H1,I1,r1,q1⟩:=zz0;refine thn (ho pins s1 σ H1 v y u w _ I1 r r1 q1) fun z s2 zz0=>?_;obtain ⟨zv,H2,I2,r2,q2⟩:=zz0;exact V4 I2 hN hi hx r2 (fun s3 I3=>⟨_,H2,I3,q2⟩) hf
 rcases l with ⟨hk,hm⟩ | ⟨hk,c,hc,hcell⟩
 ·exact wpAny_loadName_local I.ok.kind hk hn hm go
 ·rcases hk with hk | hk
  ·exact wpAny_loadName_cell I.ok.kind hk hc hcell go
  ·rcases hx with k | k
   ·have:X.env.scope.names.lookup x=some .free:=hk
    rw [k] at this;cases this
   ·have:X.env.scope.names.lookup x=some .free:=hk
    rw [k] at this;cases this
end
section
variable {X:Cx} {pos:Pos}
def b4G(c:TT)(tb:TS):TS:=fun D σ H=>∃ W:Nat->St->Hp->Prop,(∃ m,W m σ H)/\∀ m σ H,W m σ H ->
 c σ H fun b H1=>if b=true then ∃ N:St->Hp->Prop,(∀ σ' H',N σ' H'->∃ m',m' < m/\W m' σ' H')/\tb { D with nx:=N,ct:=N,bk:=D.nx } σ H1 else D.nx σ H1
theorem a7Q{c:Expr}{body:List Stmt}{tc:TT}{tb:TS}(hp:PassesOwn (model X.prog X.w) X.A X.env X.xe)(hc:PT X c tc)(hb:PSs X body tb):PS X (.While c body [] pos) (b4G tc tb):=by
 intro pins s σ H D I h;obtain ⟨W,⟨m0,w0⟩,turn⟩:=h;refine wpAny_While (codeAny_whileLoop (fun n s'=>∃ σ' H',Inv X pins σ' H' s'/\W n σ' H') ?_ m0 ⟨σ,H,I,w0⟩)
 rintro n s1 ⟨σ1,H1,I1,w1⟩
 refine wpAny_passesOwn hp (thn (hc pins s1 σ1 H1 _ I1 (turn n σ1 H1 w1)) fun b s2 zz0=>?_);obtain ⟨H2,I2,q2⟩:=zz0
 cases b with
 |true =>
  obtain ⟨N,hN,q2⟩:=q2;rw [if_pos rfl];refine wpAny_passesOwn hp (thn (hb pins s2 σ1 H2 _ I2 q2) fun f s3 q3=>?_)
  cases f with
  |next =>
   obtain ⟨σ3,H3,I3,n3⟩:=q3;obtain ⟨m',hm,w3⟩:=hN σ3 H3 n3;exact ⟨m',hm,σ3,H3,I3,w3⟩
  |cont =>
   obtain ⟨σ3,H3,I3,n3⟩:=q3;obtain ⟨m',hm,w3⟩:=hN σ3 H3 n3;exact ⟨m',hm,σ3,H3,I3,w3⟩
  |brk=>exact q3
  |ret v=>exact q3
 |false =>
  rw [if_neg Bool.false_ne_true];exact wpAny_execs_nil ⟨σ1,H2,I2,q2⟩
end
structure It where
 go:Nat->Hp->Prop
 yld:Nat->Hp->V->Hp->Prop
 stop:Nat->Hp->Prop
def L7(X:Cx)(pins:List (Addr×Obj))(H:Hp)(b:Addr):Prop :=
 H b=none/\b ≠ X.env.locals/\b ∉ X.fs/\(b ∈ X.ex\/X.s₀.heap.objs.size <= b)/\(∀ x c,X.env.cells.lookup x=some c->c ≠ b)/\∀ p ∈ X.pn ++ pins,p.1 ≠ b
theorem Inv.fpOk{X:Cx}{pins:List (Addr×Obj)}{σ:St}{H H':Hp}{s:Shared}{b:Addr}(I:Inv X pins σ H s)(hb:s.heap.objs.size <= b)(hn:H' b=none):L7 X pins H' b:=by
 refine ⟨hn,Nat.ne_of_gt (Nat.lt_of_lt_of_le I.lt hb),I.nofs hb,.inr (Nat.le_trans I.sz hb),fun x c e z=>?_,fun p hp z=>?_⟩
 ·obtain ⟨v,q⟩:=I.cell x c e;exact absurd (Nat.lt_of_lt_of_le q.lt (by rw [z];exact hb)) (Nat.lt_irrefl _)
 ·exact absurd (Nat.lt_of_lt_of_le (Heap.lt_size (I.pin p hp).1) (by rw [z];exact hb)) (Nat.lt_irrefl _)
structure a1g(P:Program)(w:World)(K:PySem.W.Frag)(tg:Expr)(J:It)(fp:List Addr)(it:Addr)(tn:Nat->Heap->Prop):Prop where
 mem:it ∈ fp
 obj:∀ i h,tn i h->∀ b ∈ fp,∃ o,h.get? b=some o/\∀ v,o.data ≠ .cell v
 keep:∀ i h h',tn i h->(∀ b ∈ fp,∀ o,h.get? b=some o->h'.get? b=some o)->tn i h'
 item:∀ (X:Cx),X.prog=P->X.w=w->X.K=K->X.calm=true->∀ (i:Nat) (pins:List (Addr×Obj)) (s:Shared) (σ:St) (H:Hp) (E:Value->Shared->Prop),Inv X pins σ H s->(∀ b ∈ fp,L7 X pins H b)->tn i s.heap->J.go i H ->
  wpAny (model P w) X.A (pyNext (.ref it)) (fun r s1=>∃ u,r=some u /\
   wpAny (model P w) X.A (letOwnedTupleGo tg (.ref it) u) (fun _ s2=>∃ x H',Inv X pins σ H' s2/\RelV x u/\J.yld i H x H'/\tn (i + 1) s2.heap/\∀ b ∈ fp,H' b=none) E s1) E s
 done:∀ (X:Cx),X.prog=P->X.w=w->X.K=K->X.calm=true->∀ (i:Nat) (pins:List (Addr×Obj)) (s:Shared) (σ:St) (H:Hp) (E:Value->Shared->Prop),Inv X pins σ H s->(∀ b ∈ fp,L7 X pins H b)->tn i s.heap->J.stop i H ->
  wpAny (model P w) X.A (pyNext (.ref it)) (fun r s1=>r=none/\Inv X pins σ H s1) E s
 self:∀ (A:Around) (i:Nat) (s:Shared) (Q:Value->Shared->Prop) (E:Value->Shared->Prop),tn i s.heap->Q (.ref it) s->wpAny (model P w) A (pyIter (.ref it)) Q E s
abbrev TI:=St->Hp->(It->Hp->Prop)->Prop
def PIE(X:Cx)(pins:List (Addr×Obj))(σ:St)(tg:Expr)(R:It->Hp->Prop)(itv:Value)(s2:Shared):Prop :=
 ∃ (it:Addr) (fp:List Addr) (tn:Nat->Heap->Prop) (J:It) (H':Hp),itv = .ref it/\Inv X pins σ H' s2/\a1g X.prog X.w X.K tg J fp it tn/\tn 0 s2.heap/\(∀ b ∈ fp,L7 X pins H' b)/\R J H'
def PI(X:Cx)(tg iter:Expr)(wi:TI):Prop :=
 ∀ (pins:List (Addr×Obj)) (s:Shared) (σ:St) (H:Hp) (R:It->Hp->Prop),Inv X pins σ H s->wi σ H R ->
  wpAny (model X.prog X.w) X.A (eval iter X.env) (fun v s1=>wpAny (model X.prog X.w) X.A (pyIter v) (PIE X pins σ tg R) X.xe s1) X.xe s
theorem a3s{M:Model}{A:Around}{E:Value->Shared->Prop}{s:Shared}{tg:Expr}{it:Addr}{u:Value}{o:Obj}{n:String}{vs:Array Value}{Q:Unit->Shared->Prop}(ho:s.heap.get? it=some o)(hc:o.cls = .type n)(hd:o.data = .fields vs)
  (hn:["enumerate","zip","dict_itemiterator","dict_reverseitemiterator","odict_iterator","itertools.zip_longest","itertools.pairwise"].contains n=false) (hQ:Q () s):wpAny M A (letOwnedTupleGo tg (.ref it) u) Q E s:=by
 unfold letOwnedTupleGo
 cases tg <;> first
  |exact wpAny_pure hQ
  |(cases u <;> first
    |exact wpAny_pure hQ
    |(refine wpAny_bind (wpAny_load ho ?_)
      rw [hc,hd];show wpAny M A (if (["enumerate","zip","dict_itemiterator","dict_reverseitemiterator","odict_iterator","itertools.zip_longest","itertools.pairwise"].contains n && vs[0]? == some (rawInt _))=true then _ else _) Q E s;rw [if_neg (by intro h;rw [hn,Bool.false_and] at h;cases h)];exact wpAny_pure hQ))
def Itl(K:PySem.W.Frag)(a:Addr):It :=
 ⟨fun i H=>∃ xs x,SqL K H a xs/\xs[i]?=some x,fun i H x H'=>H'=H/\∀ xs,SqL K H a xs->xs[i]?=some x,fun i H=>∃ xs,SqL K H a xs/\xs.length <= i⟩
def Itt(K:PySem.W.Frag)(a:Addr):It :=
 ⟨fun i H=>∃ xs x,SqT K H a xs/\xs[i]?=some x,fun i H x H'=>H'=H/\∀ xs,SqT K H a xs->xs[i]?=some x,fun i H=>∃ xs,SqT K H a xs/\xs.length <= i⟩
def Itr(lo:Int)(n:Nat):It:=⟨fun i _=>i < n,fun i H x H'=>H'=H/\x = .int (lo + i),fun i _=>n <= i⟩
theorem a4x{P:Program}{w:World}{K:PySem.W.Frag}{tg:Expr}(a it:Addr):a1g P w K tg (Itl K a) [it] it (fun i h=>h.IsListIter it a i) where
 mem:=by simp
 obj:=fun i h st b hb=>by
  have e:b=it:=by simpa using hb
  subst e;obtain ⟨o,e,c,d⟩:=st;exact ⟨o,e,fun v z=>by rw [d] at z;cases z⟩
 keep:=fun i h h' st k=>st.at fun o e=>k it (by simp) o e
 item:=by
  intro X hP hw hK hc i pins s σ H E I hf st hg;subst hP hw hK;obtain ⟨xs,x,hq,hx⟩:=hg;obtain ⟨its,rv,p,hz⟩:=I.list hq;obtain ⟨u,hu,ru⟩:=rv.get hx;obtain ⟨f0,f1,f2,f3,f4,f5⟩:=hf it (by simp);refine wpAny_pyNext_list_item st p.isList (x:=u) (by simpa using hu) fun h' st' sb=>?_;have I1:Inv X pins σ H { s with heap:=h' }:=I.turned (t':=s.toks) (fun b o hb e=>(sb.2 b hb).trans e) f0 f1 f3 f4 f5;obtain ⟨o,e,c,d⟩:=id st';exact ⟨u,rfl,a3s (s:={ s with heap:=h' }) e c d (by decide) ⟨x,H,I1,ru,⟨rfl,fun ys hy=>by rw [I.list_inj hy hq];exact hx⟩,st',fun b hb=>(hf b hb).1⟩⟩
 done:=by
  intro X hP hw hK hc i pins s σ H E I hf st hg;subst hP hw hK;obtain ⟨xs,hq,hx⟩:=hg;obtain ⟨its,rv,p,hz⟩:=I.list hq;obtain ⟨f0,f1,f2,f3,f4,f5⟩:=hf it (by simp);have hl:=rv.length;exact wpAny_pyNext_list_end (I.ok.hd hc) st p.isList (by simp;omega) fun h' eb=>⟨rfl,I.turned (t':=s.toks) (fun b o hb e=>eb b o hb e) f0 f1 f3 f4 f5⟩
 self:=fun _ _ _ _ _ st h=>wpAny_pyIter_listiter st h
theorem a2g{P:Program}{w:World}{K:PySem.W.Frag}{tg:Expr}(a it:Addr):a1g P w K tg (Itt K a) [it] it (fun i h=>h.IsTupleIter it a i) where
 mem:=by simp
 obj:=fun i h st b hb=>by
  have e:b=it:=by simpa using hb
  subst e;obtain ⟨o,e,c,d⟩:=st;exact ⟨o,e,fun v z=>by rw [d] at z;cases z⟩
 keep:=fun i h h' st k=>st.at fun o e=>k it (by simp) o e
 item:=by
  intro X hP hw hK hc i pins s σ H E I hf st hg;subst hP hw hK;obtain ⟨xs,x,hq,hx⟩:=hg;obtain ⟨its,rv,p,hz⟩:=I.tuple hq;obtain ⟨u,hu,ru⟩:=rv.get hx;obtain ⟨f0,f1,f2,f3,f4,f5⟩:=hf it (by simp);refine wpAny_pyNext_tuple_item st (show s.heap.IsTuple a its.toArray from p) (x:=u) (by simpa using hu) fun h' st' sb=>?_;have I1:Inv X pins σ H { s with heap:=h' }:=I.turned (t':=s.toks) (fun b o hb e=>(sb.2 b hb).trans e) f0 f1 f3 f4 f5;obtain ⟨o,e,c,d⟩:=id st';exact ⟨u,rfl,a3s (s:={ s with heap:=h' }) e c d (by decide) ⟨x,H,I1,ru,⟨rfl,fun ys hy=>by rw [I.tuple_inj hy hq];exact hx⟩,st',fun b hb=>(hf b hb).1⟩⟩
 done:=by
  intro X hP hw hK hc i pins s σ H E I hf st hg;subst hP hw hK;obtain ⟨xs,hq,hx⟩:=hg;obtain ⟨its,rv,p,hz⟩:=I.tuple hq;obtain ⟨f0,f1,f2,f3,f4,f5⟩:=hf it (by simp);have hl:=rv.length;exact wpAny_pyNext_tuple_end (I.ok.hd hc) st (show s.heap.IsTuple a its.toArray from p) (by simp;omega) fun h' eb=>⟨rfl,I.turned (t':=s.toks) (fun b o hb e=>eb b o hb e) f0 f1 f3 f4 f5⟩
 self:=fun _ _ _ _ _ st h=>wpAny_pyIter_tupleiter st h
theorem a2L{P:Program}{w:World}{K:PySem.W.Frag}{tg:Expr}(it:Addr)(lo:Int)(n:Nat):a1g P w K tg (Itr lo n) [it] it (fun i h=>IsRangeIter h it (lo + (i:Nat) * 1) ((n:Int) - (i:Nat)) 1) where
 mem:=by simp
 obj:=fun i h st b hb=>by
  have e:b=it:=by simpa using hb
  subst e
  exact ⟨_,st,fun v z=>by
   have z':Data.fields _=Data.cell v:=z
   cases z'⟩
 keep:=fun i h h' st k=>k it (by simp) _ st
 item:=by
  intro X hP hw hK hc i pins s σ H E I hf st hg;subst hP hw hK;obtain ⟨f0,f1,f2,f3,f4,f5⟩:=hf it (by simp);have W:=Walks.range (prog:=X.prog) (w:=X.w) (I.ok.hd hc) it lo 1 n;refine W.item i s _ _ hg st fun v h' tk hv st' kk=>?_;obtain ⟨t,rfl⟩:=hv;have I1:Inv X pins σ H { s with heap:=h',toks:=tk }:=I.turned (fun b o hb e=>kk b o (by simpa using hb) e) f0 f1 f3 f4 f5;refine ⟨_,rfl,a3s (s:={ s with heap:=h',toks:=tk }) (n:= "range_iterator") st' rfl rfl (by decide) ⟨.int (lo + i),H,I1,⟨t,?_⟩,⟨rfl,rfl⟩,st',fun b hb=>(hf b hb).1⟩⟩;rw [Int.mul_one]
 done:=by
  intro X hP hw hK hc i pins s σ H E I hf st hg;subst hP hw hK;obtain ⟨f0,f1,f2,f3,f4,f5⟩:=hf it (by simp);exact wpAny_pyNext_range_end (I.ok.hd hc) st (by have:n <= i:=hg;omega) fun h' eb=>⟨rfl,I.turned (t':=s.toks) (fun b o hb e=>eb b o hb e) f0 f1 f3 f4 f5⟩
 self:=fun _ _ _ _ _ st h=>wpAny_pyIter_rangeiter st h
end L2
namespace L2
open PySem PySem.Spec PyProof.Rows
section
variable {X:Cx} {tg:Expr}
theorem a1i{pins:List (Addr×Obj)}{σ:St}{H:Hp}{s:Shared}{R:It->Hp->Prop}{E:Value->Shared->Prop}{lo hi:Int}{t u v:Tok}{tk:Nat}(I:Inv X pins σ H s)(h1:-(2 ^ 62) <= lo)(h2:lo < 2 ^ 62)(h3:-(2 ^ 62) <= hi)(h4:hi < 2 ^ 62)
  (q:R (Itr lo (hi - lo).toNat) H):wpAny (model X.prog X.w) X.A (pyIter (.ref s.heap.objs.size)) (PIE X pins σ tg R) E { s with heap:=s.heap.push { cls:=.type "range",data:=.fields #[.int lo t,.int hi u,.int 1 v] },toks:=tk }:=by
 refine wpAny_pyIter_range (IsRange.new ..) (small_one h1 h2 h3 h4) ?_;have I1:Inv X pins σ H { s with heap:=s.heap.push { cls:=.type "range",data:=.fields #[.int lo t,.int hi u,.int 1 v] },toks:=tk }:=I.kept fun b o e=>Heap.get?_push_of_some _ e
 refine ⟨(s.heap.push { cls:=.type "range",data:=.fields #[.int lo t,.int hi u,.int 1 v] }).objs.size,[(s.heap.push { cls:=.type "range",data:=.fields #[.int lo t,.int hi u,.int 1 v] }).objs.size],_,_,H,rfl,
  I1.kept (t':=tk) fun b o e=>Heap.get?_push_of_some _ e,a2L _ lo (hi - lo).toNat,?_,fun b hb=>?_,q⟩
 ·have e1:lo + ((0:Nat):Int) * 1=lo:=by simp
  have e2:(((hi - lo).toNat:Nat):Int) - ((0:Nat):Int)=Builtin.Range.rangeSize lo hi 1:=by rw [rangeSize_one];split <;> omega
  show IsRangeIter _ _ (lo + ((0:Nat):Int) * 1) ((((hi - lo).toNat:Nat):Int) - ((0:Nat):Int)) 1;rw [e1,e2];exact Heap.get?_push_size _ rfl
 ·have e:b=(s.heap.push { cls:=.type "range",data:=.fields #[.int lo t,.int hi u,.int 1 v] }).objs.size:=by simpa using hb
  subst e;exact I1.fpOk (Nat.le_refl _) (I1.hok.fresh (Nat.le_refl _))
def b8b(ta:TA):TI:=fun σ H R=>ta σ H fun vs H1=>∃ j:Int,vs=[.int j]/\-(2 ^ 62) <= j/\j < 2 ^ 62/\R (Itr 0 j.toNat) H1
def b8N(ta:TA):TI:=fun σ H R=>ta σ H fun vs H1=>∃ i j:Int,vs=[.int i,.int j]/\(-(2 ^ 62) <= i/\i < 2 ^ 62/\-(2 ^ 62) <= j/\j < 2 ^ 62)/\R (Itr i (j - i).toNat) H1
theorem a4l{a:Expr}{ta:TA}{p pos:Pos}(hg:Gl X "range")(hm:X.mg "range" = none)(ha:PA X [a] ta)(hs:starEach [a] X.env=[(false,eval a X.env)]:=by rfl):PI X tg (.Call (.Name "range" p) [a] [] pos) (b8b ta):=by
 intro pins s σ H R I h;refine Call_ (J9 I hg hm boot_range (PyProof.Rows.callWith_type1 (thn (ha pos pins s σ H _ I h) fun us s1 ⟨vs,H1,I1,r1,q1⟩=>?_) hs rfl));obtain ⟨j,e,q1,q2,q⟩:=q1;subst e
 cases r1 with
 |cons r rr =>
  cases rr;obtain ⟨t,rfl⟩:=r;exact call_range_1 (a1i I1 (by omega) (by omega) q1 q2 (by simpa using q))
theorem a4f{a b:Expr}{ta:TA}{p pos:Pos}(hg:Gl X "range")(hm:X.mg "range" = none)(ha:PA X [a,b] ta)(hs:starEach [a,b] X.env=[(false,eval a X.env),(false,eval b X.env)]:=by rfl)(hs2:starEach [b] X.env=[(false,eval b X.env)]:=by rfl) :
  PI X tg (.Call (.Name "range" p) [a,b] [] pos) (b8N ta):=by
 intro pins s σ H R I h;refine Call_ (J9 I hg hm boot_range (PyProof.Rows.callWith_type1 (thn (ha pos pins s σ H _ I h) fun us s1 ⟨vs,H1,I1,r1,q1⟩=>?_) (by rw [hs,hs2]) (by rw [hs2];rfl)));obtain ⟨i,j,e,⟨q1,q2,q3,q4⟩,q⟩:=q1;subst e
 cases r1 with
 |cons r rr =>
  cases rr with
  |cons r' rr =>
   cases rr;obtain ⟨t,rfl⟩:=r;obtain ⟨t',rfl⟩:=r';exact call_range_2 (a1i I1 q1 q2 q3 q4 q)
def c0o(wi:TI)(g:TG)(tb:TS):TS:=fun D σ H=>wi σ H fun J H1=>∃ W:Nat->Nat->St->Hp->Prop,(∃ m,W 0 m σ H1)/\∀ i m σ H,W i m σ H ->
 (J.stop i H/\D.nx σ H)\/(J.go i H/\∃ N:St->Hp->Prop,(∀ σ' H',N σ' H'->∃ m',m' < m/\W (i + 1) m' σ' H')/\∀ x H',J.yld i H x H'->g x σ H' fun σ2 H2=>tb { D with nx:=N,ct:=N,bk:=D.nx } σ2 H2)
def S0(fp:List Addr)(h:Heap):List (Addr×Obj):=fp.filterMap fun b=>(h.get? b).map fun o=>(b,o)
theorem G8{fp:List Addr}{h:Heap}{b:Addr}{o:Obj}(hb:b ∈ fp)(e:h.get? b=some o):(b,o) ∈ S0 fp h:=List.mem_filterMap.mpr ⟨b,hb,by rw [e];rfl⟩
theorem a4g{fp:List Addr}{h:Heap}{p:Addr×Obj}(hp:p ∈ S0 fp h):p.1 ∈ fp/\h.get? p.1=some p.2:=by
 obtain ⟨b,hb,e⟩:=List.mem_filterMap.mp hp
 cases q:h.get? b with
 |none=>rw [q] at e;cases e
 |some o =>
  rw [q] at e;have e':(b,o)=p:=Option.some.inj e;subst e';exact ⟨hb,q⟩
theorem Inv.pinned{pins:List (Addr×Obj)}{σ:St}{H:Hp}{s:Shared}{fp:List Addr}(I:Inv X pins σ H s)(hf:∀ b ∈ fp,L7 X pins H b)(ho:∀ b ∈ fp,∃ o,s.heap.get? b=some o/\∀ v,o.data ≠ .cell v):Inv X (pins ++ S0 fp s.heap) σ H s :=
 I.pins_of fun p hp=>(List.mem_append.mp hp).elim (fun z=>I.pin p (List.mem_append_right _ z)) fun z=>by
  obtain ⟨hb,e⟩:=a4g z;obtain ⟨f0,f1,f2,_⟩:=hf p.1 hb;obtain ⟨o,e',d⟩:=ho p.1 hb;rw [e] at e';cases e'
  exact ⟨e,f0,f1,f2,d⟩
theorem Inv.unpinned{pins pl:List (Addr×Obj)}{σ:St}{H:Hp}{s:Shared}(I:Inv X (pins ++ pl) σ H s):Inv X pins σ H s:=I.pins_of fun p hp=>I.pin p (List.mem_append_right _ (List.mem_append_left _ hp))
theorem b6o{iter:Expr}{body:List Stmt}{wi:TI}{g:TG}{tb:TS}{pos:Pos}(hp:PassesOwn (model X.prog X.w) X.A X.env X.xe)(hc:X.calm=true)(hi:PI X tg iter wi)(hg:PG X tg g)(hb:PSs X body tb)
  (hs:∀ x,foldedSetIterable iter X.env x=pure x:=by intro _;rfl):PS X (.For tg iter body [] pos) (c0o wi g tb):=by
 intro pins s σ H D I h;refine wpAny_For (thn (hi pins s σ H _ I h) fun v s1 h1=>thn h1 fun itv s2 h2=>?_) hs;obtain ⟨it,fp,tn,J,H2,e,I2,T,st2,f2,W,⟨m0,w0⟩,turn⟩:=h2;subst e;have stat:∀ {H':Hp},(∀ b ∈ fp,H' b=none)->∀ b ∈ fp,L7 X pins H' b:=fun hn b hb=>⟨hn b hb,(f2 b hb).2⟩
 refine codeAny_forLoop_any (fun n s'=>∃ i σ' H',Inv X pins σ' H' s'/\tn i s'.heap/\(∀ b ∈ fp,H' b=none)/\W i n σ' H') ?_ m0 ⟨0,σ,H2,I2,st2,fun b hb=>(f2 b hb).1,w0⟩
 rintro n s3 ⟨i,σ3,H3,I3,st3,fr3,w3⟩
 rcases turn i n σ3 H3 w3 with ⟨stop,qn⟩ | ⟨go,N,hN,step⟩
 ·refine wpAny_passesOwn hp (thn (T.done X rfl rfl rfl hc i pins s3 σ3 H3 X.xe I3 (stat fr3) st3 stop) fun r s4 zz0=>?_);obtain ⟨hr,I4⟩:=zz0;subst hr;exact wpAny_execs_nil ⟨σ3,H3,I4,qn⟩
 ·refine wpAny_passesOwn hp (thn (T.item X rfl rfl rfl hc i pins s3 σ3 H3 X.xe I3 (stat fr3) st3 go) fun r s4 zz0=>?_);obtain ⟨u,hr,h4⟩:=zz0;subst hr;refine wpAny_passesOwn hp (thn h4 fun _ s5 zz0=>?_);obtain ⟨x,H5,I5,r5,y5,st5,fr5⟩:=zz0;have I5':=I5.pinned (stat fr5) (T.obj _ _ st5);refine wpAny_passesOwn hp (thn (hg _ s5 σ3 H5 x u _ I5' r5 (step x H5 y5)) fun _ s6 zz0=>?_);obtain ⟨σ6,H6,I6,q6⟩:=zz0;refine wpAny_passesOwn hp (thn (hb _ s6 σ6 H6 _ I6 q6) fun f s7 q7=>?_)
  have again:∀ {σ7:St} {H7:Hp},Inv X (pins ++ S0 fp s5.heap) σ7 H7 s7->N σ7 H7->∃ m,m < n/\∃ i σ' H',Inv X pins σ' H' s7/\tn i s7.heap/\(∀ b ∈ fp,H' b=none)/\W i m σ' H':=fun {σ7 H7} I7 n7=>by
   obtain ⟨m',hm,w7⟩:=hN σ7 H7 n7;refine ⟨m',hm,i + 1,σ7,H7,I7.unpinned,T.keep _ _ _ st5 fun b hb o e=>(I7.pin (b,o) (List.mem_append_right _ (List.mem_append_right _ (G8 hb e)))).1,fun b hb=>?_,w7⟩;obtain ⟨o,e,d⟩:=T.obj _ _ st5 b hb;exact (I7.pin (b,o) (List.mem_append_right _ (List.mem_append_right _ (G8 hb e)))).2.1
  cases f with
  |next=>obtain ⟨σ7,H7,I7,n7⟩:=q7;exact again I7 n7
  |cont=>obtain ⟨σ7,H7,I7,n7⟩:=q7;exact again I7 n7
  |brk=>obtain ⟨σ7,H7,I7,q7⟩:=q7;exact ⟨σ7,H7,I7.unpinned,q7⟩
  |ret v=>obtain ⟨x7,σ7,H7,I7,r7,q7⟩:=q7;exact ⟨x7,σ7,H7,I7.unpinned,r7,q7⟩
end
end L2
namespace L2
open PySem PySem.Spec PyProof.Rows
abbrev R2:=V->V->Hp->VK->Prop
def OpR(X:Cx)(f:Value->Value->Sem Value)(r:R2):Prop :=
 ∀ (pins:List (Addr×Obj)) (s:Shared) (σ:St) (H:Hp) (x y:V) (v u:Value) (Q:VK),Inv X pins σ H s->RelV x v->RelV y u->r x y H Q ->
  wpAny (model X.prog X.w) X.A (f v u) (EP X pins σ Q) X.xe s
def UnR(X:Cx)(f:Value->Sem Value)(r:V->Hp->VK->Prop):Prop :=
 ∀ (pins:List (Addr×Obj)) (s:Shared) (σ:St) (H:Hp) (x:V) (v:Value) (Q:VK),Inv X pins σ H s->RelV x v->r x H Q ->
  wpAny (model X.prog X.w) X.A (f v) (EP X pins σ Q) X.xe s
def CallR(X:Cx)(f:Value)(r:List V->Hp->VK->Prop):Prop :=
 ∀ (pins:List (Addr×Obj)) (s:Shared) (σ:St) (H:Hp) (xs:List V) (us:List Value) (Q:VK),Inv X pins σ H s->Vals xs us->r xs H Q ->
  wpAny (model X.prog X.w) X.A (call f us) (EP X pins σ Q) X.xe s
def c0m(X:Cx)(r:V->Hp->(Bool->Hp->Prop)->Prop):Prop :=
 ∀ (pins:List (Addr×Obj)) (s:Shared) (σ:St) (H:Hp) (x:V) (v:Value) (Q:Bool->Hp->Prop),Inv X pins σ H s->RelV x v->r x H Q ->
  wpAny (model X.prog X.w) X.A (truthy v) (TP X pins σ Q) X.xe s
def tOp(r:R2)(ta tb:TE):TE:=fun σ H Q=>ta σ H fun x H1=>tb σ H1 fun y H2=>r x y H2 Q
def tUn(r:V->Hp->VK->Prop)(ta:TE):TE:=fun σ H Q=>ta σ H fun x H1=>r x H1 Q
def rI(C:Int->Int->Prop)(g:Int->Int->V):R2:=fun x y H Q=>∃ i j,x = .int i/\y = .int j/\C i j/\Q (g i j) H
def rI0(g:Int->Int->V):R2:=fun x y H Q=>∃ i j,x = .int i/\y = .int j/\Q (g i j) H
def rU(g:Int->V):V->Hp->VK->Prop:=fun x H Q=>∃ i,x = .int i/\Q (g i) H
section
variable {X:Cx} {a b c:Expr} {ta tb tc:TE} {pos:Pos}
theorem b4X(ha:PE X a ta)(hb:PE X b tb){pins:List (Addr×Obj)}{s:Shared}{σ:St}{H:Hp}{R:V->V->Hp->Prop}(I:Inv X pins σ H s)
  (h:ta σ H fun x H1=>tb σ H1 fun y H2=>R x y H2) {Q:Value->Shared->Prop} {f:Value->Value->Sem Value}
  (hf:∀ v u s2 x y H2,Inv X pins σ H2 s2->RelV x v->RelV y u->R x y H2->wpAny (model X.prog X.w) X.A (f v u) Q X.xe s2) :
  wpAny (model X.prog X.w) X.A (eval a X.env) (fun v s₁=>wpAny (model X.prog X.w) X.A (eval b X.env) (fun u s₂=>wpAny (model X.prog X.w) X.A (f v u) Q X.xe s₂) X.xe s₁) X.xe s:=by
 refine thn (ha pins s σ H _ I h) fun v s1 zz0=>?_;obtain ⟨x,H1,I1,r1,q1⟩:=zz0;refine thn (hb pins s1 σ H1 _ I1 q1) fun u s2 zz0=>?_;obtain ⟨y,H2,I2,r2,q2⟩:=zz0;exact hf v u s2 x y H2 I2 r1 r2 q2
theorem b2x{op:Operator}{r:R2}(ho:OpR X (binaryOp op) r)(ha:PE X a ta)(hb:PE X b tb):PE X (.BinOp a op b pos) (tOp r ta tb):=by
 intro pins s σ H Q I h;exact wpAny_BinOp (b4X ha hb I h fun v u s2 x y H2 I2 rx ry q=>ho pins s2 σ H2 x y v u Q I2 rx ry q)
theorem b9a{op:UnaryOp}{r:V->Hp->VK->Prop}(ho:UnR X (unaryOp op) r)(ha:PE X a ta):PE X (.UnaryOp op a pos) (tUn r ta):=by
 intro pins s σ H Q I h;exact UnaryOp_ (thn (ha pins s σ H _ I h) fun v s1 ⟨x,H1,I1,r1,q1⟩=>ho pins s1 σ H1 x v Q I1 r1 q1)
theorem opI{f:Value->Value->Sem Value}{C:Int->Int->Prop}{g:Int->Int->Int}
  (rule:∀ (i j:Int) (t u:Tok) (s:Shared) (Q:Value->Shared->Prop) (E:Value->Shared->Prop),C i j->Q (.int (g i j) s.toks) { s with toks:=s.toks + 1 }->wpAny (model X.prog X.w) X.A (f (.int i t) (.int j u)) Q E s) :
  OpR X f (rI C fun i j=>.int (g i j)):=by
 intro pins s σ H x y v u Q I rx ry h;obtain ⟨i,j,rfl,rfl,hc,q⟩:=h;obtain ⟨t,rfl⟩:=rx;obtain ⟨t',rfl⟩:=ry;exact rule i j t t' s _ _ hc ⟨.int (g i j),H,I.tok _,⟨_,rfl⟩,q⟩
theorem b4U{f:Value->Value->Sem Value}{g:Int->Int->Int}
  (rule:∀ (i j:Int) (t u:Tok) (s:Shared) (Q:Value->Shared->Prop) (E:Value->Shared->Prop),Q (.int (g i j) s.toks) { s with toks:=s.toks + 1 }->wpAny (model X.prog X.w) X.A (f (.int i t) (.int j u)) Q E s) :
  OpR X f (rI0 fun i j=>.int (g i j)):=by
 intro pins s σ H x y v u Q I rx ry h;obtain ⟨i,j,rfl,rfl,q⟩:=h;obtain ⟨t,rfl⟩:=rx;obtain ⟨t',rfl⟩:=ry;exact rule i j t t' s _ _ ⟨.int (g i j),H,I.tok _,⟨_,rfl⟩,q⟩
theorem b1x{f:Value->Value->Sem Value}{g:Int->Int->Bool}
  (rule:∀ (i j:Int) (t u:Tok) (s:Shared) (Q:Value->Shared->Prop) (E:Value->Shared->Prop),Q (.bool (g i j)) s->wpAny (model X.prog X.w) X.A (f (.int i t) (.int j u)) Q E s) :
  OpR X f (rI0 fun i j=>.bl (g i j)):=by
 intro pins s σ H x y v u Q I rx ry h;obtain ⟨i,j,rfl,rfl,q⟩:=h;obtain ⟨t,rfl⟩:=rx;obtain ⟨t',rfl⟩:=ry;exact rule i j t t' s _ _ ⟨.bl (g i j),H,I,rfl,q⟩
def b7U(i j:Int):Prop:=0 <= j/\j <= 1000000/\i.natAbs < 2 ^ 64
theorem op_add:OpR X (binaryOp .Add) (rI0 fun i j=>.int (i + j)):=b4U fun _ _ _ _ _ _ _ q=>add_int q
theorem b6h:OpR X (binaryOp .Sub) (rI0 fun i j=>.int (i - j)):=b4U fun _ _ _ _ _ _ _ q=>sub_int q
theorem b4N:OpR X (binaryOp .Mod) (rI (fun _ j=>0 < j) fun i j=>.int (i % j)):=opI fun i j _ _ _ _ _ hc q=>by
 have h1:(0:Int) < j:=hc;exact mod_int' (by omega) (by rw [Int.fmod_eq_emod_of_nonneg i (by omega)];exact q)
theorem b4O:OpR X (binaryOp .Pow) (rI b7U fun i j=>.int (i ^ j.toNat)):=opI fun _ _ _ _ _ _ _ hc q=>pow_int_small hc.1 hc.2.1 hc.2.2 q
theorem b1H:OpR X (inplaceOp .Add) (rI0 fun i j=>.int (i + j)):=b4U fun _ _ _ _ _ _ _ q=>iadd_int q
theorem unI{f:Value->Sem Value}{g:Int->Int}
  (rule:∀ (i:Int) (t:Tok) (s:Shared) (Q:Value->Shared->Prop) (E:Value->Shared->Prop),Q (.int (g i) s.toks) { s with toks:=s.toks + 1 }->wpAny (model X.prog X.w) X.A (f (.int i t)) Q E s) :
  UnR X f (rU fun i=>.int (g i)):=by
 intro pins s σ H x v Q I rx h;obtain ⟨i,rfl,q⟩:=h;obtain ⟨t,rfl⟩:=rx;exact rule i t s _ _ ⟨.int (g i),H,I.tok _,⟨_,rfl⟩,q⟩
theorem b4C:UnR X (unaryOp .USub) (rU fun i=>.int (-i)):=unI fun _ _ _ _ _ q=>neg_int q
end
section
variable {X:Cx} {a b c:Expr} {ta tb tc:TE} {pos:Pos}
theorem a5u{pins:List (Addr×Obj)}{σ:St}{H:Hp}{s:Shared}{Q:VK}{k k':Bool}(I:Inv X pins σ H s)(q:Q (.bl k) H)(e:k=k'):EP X pins σ Q (.bool k') s:=by
 subst e;exact ⟨.bl k,H,I,rfl,q⟩
theorem b8T:OpR X (compareOp .Lt) (rI0 fun i j=>.bl (decide (i < j))):=b1x fun _ _ _ _ _ _ _ q=>lt_int q
theorem b7D:OpR X (compareOp .LtE) (rI0 fun i j=>.bl (decide (i <= j))):=b1x fun _ _ _ _ _ _ _ q=>le_int q
theorem b8R:OpR X (compareOp .Gt) (rI0 fun i j=>.bl (decide (j < i))):=b1x fun _ _ _ _ _ _ _ q=>gt_int q
theorem b8F:OpR X (compareOp .GtE) (rI0 fun i j=>.bl (decide (j <= i))):=b1x fun _ _ _ _ _ _ _ q=>ge_int q
theorem b6d:OpR X (compareOp .Is) (fun x y H Q=>y = .non/\Q (.bl (decide (x = .non))) H):=by
 intro pins s σ H x y v u Q I rx ry h;obtain ⟨rfl,q⟩:=h;cases ry;refine is_none_gen (a5u I q ?_)
 cases x <;> first
  |(cases rx;rfl)
  |(obtain ⟨t,rfl⟩:=rx;rfl)
theorem b1A:OpR X (compareOp .IsNot) (fun x y H Q=>y = .non/\Q (.bl (!decide (x = .non))) H):=by
 intro pins s σ H x y v u Q I rx ry h;obtain ⟨rfl,q⟩:=h;cases ry;refine isnot_none_gen (a5u I q ?_)
 cases x <;> first
  |(cases rx;rfl)
  |(obtain ⟨t,rfl⟩:=rx;rfl)
theorem OpR.or{f:Value->Value->Sem Value}{r r':R2}(h:OpR X f r)(h':OpR X f r'):OpR X f (fun x y H Q=>r x y H Q\/r' x y H Q):=by
 intro pins s σ H x y v u Q I rx ry q
 rcases q with q | q
 ·exact h pins s σ H x y v u Q I rx ry q
 ·exact h' pins s σ H x y v u Q I rx ry q
theorem a8j(b:Expr){op:CmpOp}(h:op ≠ .In:=by decide)(h2:op ≠ .NotIn:=by decide):behindInMarks op b=false:=by
 have e1:(op == CmpOp.In)=false:=by cases op <;> first | rfl | exact absurd rfl h
 have e2:(op == CmpOp.NotIn)=false:=by cases op <;> first | rfl | exact absurd rfl h2
 cases b with
 |Set elts k p =>
  show (k == 0 && (op == .In || op == .NotIn) && elts.all (constantsAlone 8))=false;rw [e1,e2]
  cases k == 0 <;> rfl
 |_=>rfl
theorem a3g{op:CmpOp}{r:R2}(ho:OpR X (compareOp op) r)(ha:PE X a ta)(hb:PE X b tb)(hm:behindInMarks op b=false):PE X (.Compare a [op] [b] pos) (tOp r ta tb):=by
 intro pins s σ H Q I h;exact wpAny_Compare1 (b4X ha hb I h fun v u s2 x y H2 I2 rx ry q=>ho pins s2 σ H2 x y v u Q I2 rx ry q) hm
def b2C(t:TE):TT:=fun σ H Q=>t σ H fun x H'=>∃ k,x = .bl k/\Q k H'
theorem a3W{op:CmpOp}{r:R2}(ho:OpR X (compareOp op) r)(ha:PE X a ta)(hb:PE X b tb)(hm:behindInMarks op b=false):PT X (.Compare a [op] [b] pos) (b2C (tOp r ta tb)):=by
 intro pins s σ H Q I h
 refine wpAny_isTrue_Compare1 (thn (ha pins s σ H _ I h) fun v s1 ⟨x,H1,I1,r1,q1⟩=>thn (hb pins s1 σ H1 _ I1 q1) fun u s2 ⟨y,H2,I2,r2,q2⟩ =>
  thn (ho pins s2 σ H2 x y v u _ I2 r1 r2 q2) fun c s3 ⟨z,H3,I3,r3,k,e,q3⟩=>?_) hm
 subst e;cases r3;exact wpAny_truthy_bool ⟨H3,I3,q3⟩
def a2a(r r':R2)(ta tb tc:TE):TE:=fun σ H Q=>ta σ H fun x H1=>tb σ H1 fun y H2=>r x y H2 fun z H3=>∃ k,z = .bl k /\
 (if k=true then tc σ H3 fun w' H4=>r' y w' H4 Q else Q (.bl false) H3)
theorem a7A{op op':CmpOp}{r r':R2}(ho:OpR X (compareOp op) r)(ho':OpR X (compareOp op') r')(ha:PE X a ta)(hb:PE X b tb)(hc:PE X c tc)
  (hm:lastMarks [op,op'] [b,c]=false:=by with_unfolding_all rfl):PE X (.Compare a [op,op'] [b,c] pos) (a2a r r' ta tb tc):=by
 intro pins s σ H Q I h
 refine Compare_chain (thn (ha pins s σ H _ I h) fun v s1 ⟨x,H1,I1,r1,q1⟩=>chain_link (thn (hb pins s1 σ H1 _ I1 q1) fun u s2 ⟨y,H2,I2,r2,q2⟩ =>
  thn (ho pins s2 σ H2 x y v u _ I2 r1 r2 q2) fun d s3 ⟨z,H3,I3,r3,k,e,q3⟩=>?_)) hm
 subst e;cases r3;refine wpAny_truthy_bool ?_
 cases k with
 |false=>exact ite_ff ⟨.bl false,H3,I3,rfl,q3⟩
 |true=>exact ite_tt (chain_last (thn (hc pins s3 σ H3 _ I3 q3) fun w' s4 ⟨z',H4,I4,r4,q4⟩=>ho' pins s4 σ H4 y z' u w' Q I4 r2 r4 q4))
theorem a6r{op op':CmpOp}{r r':R2}(ho:OpR X (compareOp op) r)(ho':OpR X (compareOp op') r')(ha:PE X a ta)(hb:PE X b tb)(hc:PE X c tc)
  (hm:lastMarks [op,op'] [b,c]=false:=by with_unfolding_all rfl):PT X (.Compare a [op,op'] [b,c] pos) (b2C (a2a r r' ta tb tc)):=by
 intro pins s σ H Q I h
 refine isTrue_chain (thn (ha pins s σ H _ I h) fun v s1 ⟨x,H1,I1,r1,q1⟩=>test_link (thn (hb pins s1 σ H1 _ I1 q1) fun u s2 ⟨y,H2,I2,r2,q2⟩ =>
  thn (ho pins s2 σ H2 x y v u _ I2 r1 r2 q2) fun d s3 ⟨z,H3,I3,r3,k,e,q3⟩=>?_)) hm
 subst e;cases r3;refine wpAny_truthy_bool ?_
 cases k with
 |false =>
  obtain ⟨k',e',q'⟩:=q3
  cases e'
  exact ite_ff ⟨H3,I3,q'⟩
 |true =>
  refine ite_tt (test_last (thn (hc pins s3 σ H3 _ I3 q3) fun w' s4 ⟨z',H4,I4,r4,q4⟩=>thn (ho' pins s4 σ H4 y z' u w' _ I4 r2 r4 q4) fun d' s5 zz0=>?_));obtain ⟨z2,H5,I5,r5,k2,e2,q5⟩:=zz0;subst e2;cases r5;exact wpAny_truthy_bool ⟨H5,I5,q5⟩
def b3T(K:PySem.W.Frag)(x:V)(H:Hp)(k:Bool):Prop :=
 match x with
 |.non=>k=false
 |.bl b=>k=b
 |.int i=>k=(i != 0)
 |.str y=>y.length <= sizeLine/\k=((y.length:Int) != 0)
 |.byt y=>y.size <= sizeLine/\k=((y.size:Int) != 0)
 |.ref p=>(∃ xs,SqL K H p xs/\k = !xs.isEmpty)\/(∃ xs,SqT K H p xs/\k = !xs.isEmpty)\/∃ kvs,H p=some (.dK kvs)/\k = !kvs.isEmpty
 |_=>False
theorem a2o{κ:Type}{kvs:List (κ×V)}{vs:List (κ×Value)}(r:KV kvs vs):(!vs.isEmpty) = !kvs.isEmpty:=by
 cases r <;> rfl
theorem V2{xs:List V}{its:List Value}(r:Vals xs its):(!its.toArray.isEmpty) = !xs.isEmpty:=by
 cases r <;> simp
theorem R6:(sizeLine:Nat) < 2 ^ 63:=by rw [sizeLine_eq];decide
theorem b6m:c0m X (fun x H Q=>∃ k,b3T X.K x H k/\Q k H):=by
 intro pins s σ H x v Q I rx h;obtain ⟨k,e,q⟩:=h;have hl:=R6;have hs:sizeLine=16777216:=sizeLine_eq
 cases x with
 |non =>
  cases rx;have e':k=false:=e;subst e';exact truthy_none ⟨H,I,q⟩
 |bl b =>
  cases rx;have e':k=b:=e;subst e';exact wpAny_truthy_bool ⟨H,I,q⟩
 |int i =>
  obtain ⟨t,rfl⟩:=rx;have e':k=(i != 0):=e;subst e';exact PySem.P.truthy_int ⟨H,I,q⟩
 |str y =>
  obtain ⟨t,rfl⟩:=rx;obtain ⟨hy,e'⟩:y.length <= sizeLine/\k=((y.length:Int) != 0):=e;subst e';exact PySem.P.truthy_str (by omega) ⟨H,I.tok _,q⟩
 |byt y =>
  obtain ⟨t,rfl⟩:=rx;obtain ⟨hy,e'⟩:y.size <= sizeLine/\k=((y.size:Int) != 0):=e;subst e';exact PySem.W.truthy_bytes (by omega) ⟨H,I.tok _,q⟩
 |ref p =>
  cases rx;have e':(∃ xs,SqL X.K H p xs/\k = !xs.isEmpty)\/(∃ xs,SqT X.K H p xs/\k = !xs.isEmpty)\/∃ kvs,H p=some (.dK kvs)/\k = !kvs.isEmpty:=e
  rcases e' with ⟨xs,hx,e'⟩ | ⟨xs,hx,e'⟩ | ⟨kvs,hx,e'⟩
  ·subst e';obtain ⟨its,r,pl,hz⟩:=I.list hx;have hlen:=r.length;exact wpAny_truthy_list pl.isList (by simp only [List.size_toArray];omega) ⟨H,I.tok _,by rw [V2 r];exact q⟩
  ·subst e';obtain ⟨its,r,pl,hz⟩:=I.tuple hx;have hlen:=r.length;exact truthy_tuple pl (by simp only [List.size_toArray];omega) ⟨H,I.tok _,by rw [V2 r];exact q⟩
  ·subst e';obtain ⟨hz,hS,vs,r,m⟩:kvs.length <= sizeLine/\(p == sysModules)=false/\∃ vs,KV kvs vs/\s.heap.DictOf (n5 X.prog X.w) p vs:=I.hok p _ hx;have hlen:kvs.length=vs.length:=Paired.length r;exact wpAny_truthy_dict hS m (by omega) ⟨H,I.tok _,by rw [a2o r];exact q⟩
 |_=>exact (show False from e).elim
theorem a6B(ha:PE X a ta)(he:∀ whole,isTrue a X.env whole=(do let v <- whole;standAt a.pos;holding [v] (truthy v))) :
  PT X a (fun σ H Q=>ta σ H fun x H'=>∃ k,b3T X.K x H' k/\Q k H'):=by
 intro pins s σ H Q I h;exact isTrue_plain (thn (ha pins s σ H _ I h) fun v s1 ⟨x,H1,I1,r1,q1⟩=>b6m pins s1 σ H1 x v Q I1 r1 q1) (he _)
theorem op_add_str:OpR X (binaryOp .Add) (fun x y H Q=>∃ i j,x = .str i/\y = .str j/\i.length + j.length <= sizeLine/\Q (.str (i ++ j)) H):=by
 intro pins s σ H x y v u Q I rx ry h;obtain ⟨i,j,rfl,rfl,hz,q⟩:=h;obtain ⟨t,rfl⟩:=rx;obtain ⟨t',rfl⟩:=ry;exact add_str (fun t' tk=>⟨.str (i ++ j),H,I.tok _,⟨_,rfl⟩,q⟩) hz
theorem A8{x:V}{us:List Value}(r:Vals [x] us):∃ u,us=[u]/\RelV x u:=by
 cases r with
 |cons r1 r2=>cases r2;exact ⟨_,rfl,r1⟩
theorem b3c{x y:V}{us:List Value}(r:Vals [x,y] us):∃ u w',us=[u,w']/\RelV x u/\RelV y w':=by
 cases r with
 |cons r1 r2 =>
  cases r2 with
  |cons r3 r4=>cases r4;exact ⟨_,_,rfl,r1,r3⟩
theorem a4y(hc:X.calm=true):CallR X (.builtin "min") (fun xs H Q=>∃ i j,xs=[.int i,.int j]/\Q (.int (if j < i then j else i)) H):=by
 intro pins s σ H xs us Q I r h;obtain ⟨i,j,rfl,q⟩:=h;obtain ⟨u,w',rfl,⟨t,rfl⟩,⟨t',rfl⟩⟩:=b3c r;refine min_two_ints (I.ok.hd hc) fun h' tk k=>⟨_,H,I.kept k,?_,q⟩
 by_cases hj:j < i
 ·rw [if_pos hj,if_pos hj];exact ⟨_,rfl⟩
 ·rw [if_neg hj,if_neg hj];exact ⟨_,rfl⟩
theorem a4k:CallR X (.type "int") (fun xs H Q=>(∃ i,xs=[.int i]/\Q (.int i) H)\/∃ k,xs=[.bl k]/\Q (.int (if k then 1 else 0)) H):=by
 intro pins s σ H xs us Q I r h
 rcases h with ⟨i,rfl,q⟩ | ⟨k,rfl,q⟩
 ·obtain ⟨u,rfl,t,rfl⟩:=A8 r;exact call_int_int ⟨.int i,H,I,⟨_,rfl⟩,q⟩
 ·obtain ⟨u,rfl,r1⟩:=A8 r;cases r1;exact call_int_bool ⟨.int (if k then 1 else 0),H,I.tok _,⟨_,rfl⟩,q⟩
theorem a0F:CallR X (.type "str") (fun xs H Q=>∃ i,xs=[.int i]/\i.natAbs.log2 < 1920/\Q (.str (toString i)) H):=by
 intro pins s σ H xs us Q I r h;obtain ⟨i,rfl,hz,q⟩:=h;obtain ⟨u,rfl,t,rfl⟩:=A8 r;exact PySem.P.str_of_int hz ⟨.str _,H,I.tok _,⟨_,rfl⟩,q⟩
def b9K(K:PySem.W.Frag)(x:V)(H:Hp)(n:Nat):Prop :=
 match x with
 |.str y=>y.length <= sizeLine/\n=y.length
 |.byt y=>y.size <= sizeLine/\n=y.size
 |.ref p=>(∃ xs,SqL K H p xs/\n=xs.length)\/∃ xs,SqT K H p xs/\n=xs.length
 |_=>False
theorem a5W:CallR X (.builtin "len") (fun xs H Q=>∃ x n,xs=[x]/\b9K X.K x H n/\Q (.int n) H):=by
 intro pins s σ H xs us Q I r h;obtain ⟨x,n,rfl,e,q⟩:=h;obtain ⟨u,rfl,rx⟩:=A8 r;have hl:=R6;have hs:sizeLine=16777216:=sizeLine_eq
 cases x with
 |str y =>
  obtain ⟨t,rfl⟩:=rx;obtain ⟨hy,e'⟩:y.length <= sizeLine/\n=y.length:=e;subst e';exact len_str (by omega) ⟨.int _,H,I.tok _,⟨_,rfl⟩,q⟩
 |byt y =>
  obtain ⟨t,rfl⟩:=rx;obtain ⟨hy,e'⟩:y.size <= sizeLine/\n=y.size:=e;subst e';exact PySem.W.len_bytes (by omega) ⟨.int _,H,I.tok _,⟨_,rfl⟩,q⟩
 |ref p =>
  cases rx;have e':(∃ xs,SqL X.K H p xs/\n=xs.length)\/∃ xs,SqT X.K H p xs/\n=xs.length:=e
  rcases e' with ⟨xs,hx,e'⟩ | ⟨xs,hx,e'⟩
  ·subst e';obtain ⟨its,r',pl,hz⟩:=I.list hx;have hlen:=r'.length;exact Calls.call_len_list pl.isList (by simp only [List.size_toArray];omega) ⟨.int xs.length,H,I.tok _,⟨_,by simp only [List.size_toArray];rw [hlen]⟩,q⟩
  ·subst e';obtain ⟨its,r',pl,hz⟩:=I.tuple hx;have hlen:=r'.length;exact len_tuple pl (by simp only [List.size_toArray];omega) ⟨.int xs.length,H,I.tok _,⟨_,by simp only [List.size_toArray];rw [hlen]⟩,q⟩
 |_=>exact (show False from e).elim
end
end L2
namespace L2
open PySem PySem.Spec PyProof.Rows
structure ObjM(h:Heap)(x dx C:Addr)(mA:Str->Option Value):Prop where
 obj:h.get? x=some (PySem.W.instObj C dx)
 ns:h.Ns1 dx mA
 ne:dx ≠ x
theorem a4O{h:Heap}{dx:Addr}{mA:Str->Option Value}(n:h.Ns1 dx mA):∃ od,h.get? dx=some od/\∀ name,PySem.W.lookIn name od=some (mA name):=by
 obtain ⟨o,es,ep,ho,hd,hk,_,hm⟩:=n;refine ⟨o,ho,fun name=>?_⟩;have e:=hm name;unfold nsFind findBy at e;rw [<- Array.find?_toList] at e;unfold PySem.W.lookIn;rw [hd];dsimp only;split
 ·rename_i y q;rw [q] at e;exact congrArg some e
 ·rename_i q;rw [q] at e
  have a:es.toList.any (·.refKey)=false:=by
   rw [List.any_eq_false];intro y hy;obtain ⟨z,t,hkey⟩:=hk y (Array.mem_toList_iff.mp hy)
   simp [DictEntry.refKey,hkey]
  have a':¬ es.toList.any (·.refKey)=true:=by rw [a];exact Bool.false_ne_true
  rw [if_neg a'];exact congrArg some e
theorem ObjM.look{h:Heap}{x dx C:Addr}{mA:Str->Option Value}(I:ObjM h x dx C mA):∃ od,PySem.W.InstAt h x (PySem.W.instObj C dx) C (some od)/\∀ name,PySem.W.lookIn name od=some (mA name) :=
 let ⟨od,ho,hl⟩:=a4O I.ns
 ⟨od,⟨I.obj,rfl,rfl,ho⟩,hl⟩
section
variable {prog:Program} {w:World} {A:Around} {E:Value->Shared->Prop} {s:Shared} {K:PySem.W.Frag} {x dx C f:Addr} {mA:Str->Option Value} {name:Str} {v:Value}
end
theorem RelO.some_of{v:V}{o:Option Value}(r:RelO (some v) o):∃ u,o=some u/\RelV v u:=by
 cases o with
 |none=>exact (show False from r).elim
 |some u=>exact ⟨u,rfl,r⟩
section
variable {P:Program} {w:World} {H H':Hp} {h h':Heap} {a C dx:Addr} {fs fs':List (Str×V)}
theorem b1C(hok:HOk P w H h)(e:H a=some (.ins C dx fs)):∃ mA,ObjM h a dx C mA/\(∀ f,RelO (fs.lookup f) (mA f))/\PySem.Within mA (fs.map (·.1))/\fs.length <= 1000/\H dx=some (.own a):=by
 obtain ⟨d,z,ne,ob,mA,n,r,q⟩:=(show ObjOk P w H h a (.ins C dx fs) from hok a _ e)
 exact ⟨mA,⟨ob,n,ne⟩,r,q,z,d⟩
end
structure Cls(K:PySem.W.Frag)(C:Addr):Prop where
 pg:PySem.W.plainGet K C Str.empty=true
 hd:PySem.W.hasDictIn K C=true
 po:PySem.W.plainOver K C=true
 sa:PySem.W.findIn K (.ref C) "__setattr__" = some (some (.builtin "object.__setattr__"))
theorem Cls.get{K:PySem.W.Frag}{C:Addr}(c:Cls K C)(f:Str):PySem.W.plainGet K C f=true:=c.pg
section
variable {X:Cx} {pins:List (Addr×Obj)} {σ:St} {H:Hp} {s:Shared} {a C dx:Addr} {fs:List (Str×V)} {f:Str} {v:V} {A:Around} {E:Value->Shared->Prop}
end
section
variable {X:Cx} {o e value:Expr} {f:Str} {pos pos' tpos:Pos} {ta tv:TE}
end
section
variable {X:Cx} {pins:List (Addr×Obj)} {σ:St} {H:Hp} {s:Shared} {A:Around} {E:Value->Shared->Prop} {Q:Value->Shared->Prop} {c:Value} {b:Bool}
inductive P3(K:PySem.W.Frag)(H:Hp):V->Value->Prop where
 |non:P3 K H .non (.type "NoneType")
 |bl (x:Bool):P3 K H (.bl x) (.type "bool")
 |int (i:Int):P3 K H (.int i) (.type "int")
 |str (x:Str):P3 K H (.str x) (.type "str")
 |flt (x:UInt64):P3 K H (.flt x) (.type "float")
 |lst {a:Addr} {xs:List V} (e:H a=some (.lst xs)):P3 K H (.ref a) (.type "list")
 |frz {a:Addr} {o:Obj} {xs:List V} (e:H a=some (.frz o (.lst xs))):P3 K H (.ref a) (.type "list")
 |tup {a:Addr} {xs:List V} (e:H a=some (.tup xs)):P3 K H (.ref a) (.type "tuple")
 |dK {a:Addr} {kvs:List (Key×V)} (e:H a=some (.dK kvs)):P3 K H (.ref a) (.type "dict")
 |dT {a:Addr} {kvs:List (List Key×V)} (e:H a=some (.dT kvs)):P3 K H (.ref a) (.type "dict")
 |ins {a C dx:Addr} {fs:List (Str×V)} (e:H a=some (.ins C dx fs)) (cl:Cls K C) (ha:PySem.W.findIn K (.ref C) "__class__" = some (some (.builtin "object.__class__")))
   (hn:PySem.W.specialIn K (.builtin "object.__class__") "__get__" = some (some (.builtin "getset_descriptor.__get__"))) (htk:PySem.W.takesIn K (.builtin "object.__class__")=some true)
   (hm:PySem.W.mroIn K C (.type "object")=some true):P3 K H (.ref a) (.ref C)
theorem a4F{x:V}{u t:Value}(I:Inv X pins σ H s)(rx:RelV x u)(ty:P3 X.K H x t)(e:PySem.W.kitOne X.K t c=some b)(h:∀ tk,Q (.bool b) { s with toks:=tk }) :
  wpAny (model X.prog X.w) A (call (.builtin "isinstance") [u,c]) Q E s:=by
 cases ty with
 |non=>cases (show u=Value.none from rx);exact PySem.W.kia_one PySem.W.kitx_none I.kIn True.intro e (fun z=>nomatch z) h
 |bl y=>cases (show u=Value.bool y from rx);exact PySem.W.kia_one PySem.W.kitx_bool I.kIn True.intro e (fun z=>nomatch z) h
 |int i=>obtain ⟨t,q⟩:=(show ∃ t,u=Value.int i t from rx);cases q;exact PySem.W.kia_one PySem.W.kitx_int I.kIn True.intro e (fun z=>nomatch z) h
 |str y=>obtain ⟨t,q⟩:=(show ∃ t,u=Value.str y t from rx);cases q;exact PySem.W.kia_one PySem.W.kitx_str I.kIn True.intro e (fun z=>nomatch z) h
 |flt y=>obtain ⟨t,q⟩:=(show ∃ t,u=Value.float y t from rx);cases q;exact PySem.W.kia_one PySem.W.kitx_float I.kIn True.intro e (fun z=>nomatch z) h
 |@lst a xs ea =>
  cases (show u=Value.ref a from rx)
  obtain ⟨_,_,n,_,h1⟩:=(show ObjOk X.prog X.w H s.heap a (.lst xs) from I.hok a _ ea)
  exact PySem.W.kia_one PySem.W.kitx_list I.kIn ⟨_,h1,rfl⟩ e (fun z=>nomatch z) h
 |@frz a ob xs ea =>
  cases (show u=Value.ref a from rx)
  obtain ⟨_,_,_,n,_,h1⟩:=(show ObjOk X.prog X.w H s.heap a (.frz ob (.lst xs)) from I.hok a _ ea)
  exact PySem.W.kia_one PySem.W.kitx_list I.kIn ⟨_,h1,rfl⟩ e (fun z=>nomatch z) h
 |@tup a xs ea =>
  cases (show u=Value.ref a from rx)
  obtain ⟨_,_,_,p⟩:=(show ObjOk X.prog X.w H s.heap a (.tup xs) from I.hok a _ ea)
  obtain ⟨o,h1,h2,_⟩:=p;exact PySem.W.kia_one PySem.W.kitx_tuple I.kIn ⟨o,h1,h2⟩ e (fun z=>nomatch z) h
 |@dK a kvs ea =>
  cases (show u=Value.ref a from rx)
  obtain ⟨_,_,vs,_,p⟩:=(show ObjOk X.prog X.w H s.heap a (.dK kvs) from I.hok a _ ea)
  obtain ⟨o,es,ep,h1,h2,_⟩:=p;exact PySem.W.kia_one PySem.W.kitx_dict I.kIn ⟨o,h1,h2.1⟩ e (fun z=>nomatch z) h
 |@dT a kvs ea =>
  cases (show u=Value.ref a from rx)
  obtain ⟨_,_,xs,_,o,es,ep,h1,h2,_⟩:=(show ObjOk X.prog X.w H s.heap a (.dT kvs) from I.hok a _ ea)
  exact PySem.W.kia_one PySem.W.kitx_dict I.kIn ⟨o,h1,h2.1⟩ e (fun z=>nomatch z) h
 |@ins a C dx fs ea cl ha hn htk hm =>
  cases (show u=Value.ref a from rx)
  obtain ⟨mA,O,_⟩:=b1C I.hok ea;obtain ⟨od,J,_⟩:=O.look;exact PySem.W.kia_one (PySem.W.kitx_own (cl.get _) cl.hd ha hn htk hm) I.kIn J e (fun z=>nomatch z) h
end
end L2
namespace L2
open PySem PySem.Spec PyProof.Rows
structure Room(k:Nat)(A:Around):Prop where
 hd:A.handled=none
 dp:A.depth + 3 * k + 5 < recursionLimit
 un:A.units + 16 * k + 200 < cLine
theorem Room.mono{j k:Nat}{A:Around}(r:Room k A)(h:j <= k):Room j A:=⟨r.hd,by have:=r.dp;omega,by have:=r.un;omega⟩
theorem Room.deeper{k:Nat}{A:Around}(r:Room (k + 1) A)(env:Env):Room k (A.deeper env) :=
 ⟨r.hd,by have:=r.dp;show A.depth + 1 + 3 * k + 5 < _;omega,by have:=r.un;show A.units + 3 + 16 * k + 200 < _;omega⟩
theorem Room.depth{k:Nat}{A:Around}(r:Room k A):A.depth < recursionLimit:=by have:=r.dp;omega
theorem Room.units{k:Nat}{A:Around}(r:Room k A):A.units + 64 < cLine:=by have:=r.un;omega
def c0u:TA:=fun _ H Q=>Q [] H
def b7Q(ta:TE)(tr:TA):TA:=fun σ H Q=>ta σ H fun x H1=>tr σ H1 fun xs H2=>Q (x :: xs) H2
section
variable {X:Cx} {e:Expr} {es:List Expr} {te:TE} {t:TA} {pos:Pos}
theorem a0R:PA X [] c0u:=fun _ _ _ _ H Q I h=>Calls.spliced_nil ⟨[],H,I,.nil,h⟩
theorem P7(ha:PE X e te)(hr:PA X es t)(hs:starEach (e :: es) X.env=(false,eval e X.env) :: starEach es X.env:=by rfl):PA X (e :: es) (b7Q te t):=by
 intro pos pins s σ H Q I h;rw [hs];show wpAny _ _ (spliced ((false,eval e X.env) :: backTo pos (starEach es X.env))) _ _ s;refine Calls.spliced_cons (thn (ha pins s σ H _ I h) fun u s1 zz0=>?_);obtain ⟨x,H1,I1,r1,q1⟩:=zz0;exact thn (hr pos pins s1 σ H1 _ I1 q1) fun us s2 ⟨xs,H2,I2,r2,q2⟩=>⟨x :: xs,H2,I2,.cons r1 r2,q2⟩
def b9F(t:TA):TE:=fun σ H Q=>t σ H fun xs H1=>xs.length <= sizeLine/\∀ p,H1 p=none->Q (.ref p) (upd H1 p (.tup xs))
def c0t(t:TA):TE:=fun σ H Q=>t σ H fun xs H1=>xs.length <= sizeLine/\∀ p,H1 p=none->Q (.ref p) (upd H1 p (.lst xs))
theorem b4Z{x1}(h:PA X es t):PE X (.Tuple es x1 pos) (b9F t):=by
 intro pins s σ H Q I hq;refine wpAny_Tuple_spliced (thn (h pos pins s σ H _ I hq) fun us s1 ⟨xs,H1,I1,r,z,q⟩=>⟨by rw [<- r.length];exact z,?_⟩);have hf:H1 s1.heap.objs.size=none:=I1.hok.fresh (Nat.le_refl _);refine ⟨.ref s1.heap.objs.size,upd H1 s1.heap.objs.size (.tup xs),I1.laid (t':=s1.toks) (fun b u e=>Heap.get?_push_of_some _ e) (Nat.le_refl _) ?_,rfl,q _ hf⟩;exact ⟨z,us,r,⟨_,Heap.get?_push_size _ rfl,rfl,_,rfl⟩⟩
theorem b6I(h:PA X es t):PE X (.List es pos) (c0t t):=by
 intro pins s σ H Q I hq;refine wpAny_List_spliced (thn (h pos pins s σ H _ I hq) fun us s1 ⟨xs,H1,I1,r,z,q⟩=>⟨by rw [<- r.length];exact z,?_⟩);have hf:H1 s1.heap.objs.size=none:=I1.hok.fresh (Nat.le_refl _);refine ⟨.ref s1.heap.objs.size,upd H1 s1.heap.objs.size (.lst xs),I1.laid (t':=s1.toks) (fun b u e=>Heap.get?_push_of_some _ e) (Nat.le_refl _) ?_,rfl,q _ hf⟩;exact ⟨z,us,0,r,Heap.get?_push_size _ rfl⟩
end
abbrev Sp:=List V->Hp->VK->XK->Prop
abbrev CXT:=List Env->Hp->Shared->XK->Value->Shared->Prop
structure b1k(P:Program)(w:World)(K:PySem.W.Frag)(mg:Str->Option Value)(base:Heap)(A:Around)(outer:List Env)(s:Shared)(H:Hp):Prop where
 frames:A.frames=some outer
 mod:Mod K mg base
 bs:∀ b o,base.get? b=some o->s.heap.get? b=some o/\H b=none
 bsz:base.objs.size <= s.heap.objs.size
 funs:s.heap.FunFrames base outer
 frf:∀ b ∈ frs outer,H b=none
 hok:HOk P w H s.heap
 bare:AllBare s.gens
def CE(outer:List Env)(P:Program)(w:World)(H:Hp)(s:Shared)(Q:VK)(u:Value)(s':Shared):Prop :=
 ∃ v H',s'.os=s.os/\AllBare s'.gens/\Un (frs outer) [] H H' s.heap s'.heap/\HOk P w H' s'.heap/\RelV v u/\Q v H'
def CR(CX:CXT)(outer:List Env)(P:Program)(w:World)(H:Hp)(s:Shared)(Q:VK)(E:XK)(r:Result)(s':Shared):Prop :=
 match r with
 |.ok (.ret u)=>CE outer P w H s Q u s'
 |.ok _=>False
 |.error e=>CX outer H s E e s'
structure t8(P:Program)(w:World)(K:PySem.W.Frag)(mg:Str->Option Value)(base:Heap)(CX:CXT)(k:Nat)(f:Addr)(fd:FuncData)(ps:List Str)(sp:Sp):Prop where
 len:∀ vs H Q E,sp vs H Q E->vs.length=ps.length
 run:∀ (A:Around) (outer:List Env) (s:Shared) (H:Hp) (args:Args) (us:List Value) (vs:List V) (Q:VK) (E:XK),Room k A->b1k P w K mg base A outer s H->BindsTo s fd args (ps.zip us)->Vals vs us->sp vs H Q E ->
  codeAny (model P w) A (.call (.ref f) args) (CR CX outer P w H s Q E) s
section
variable {X:Cx} {pins:List (Addr×Obj)} {σ:St} {H:Hp} {s s':Shared}
theorem Inv.env0(I:Inv X pins σ H s):b1k X.prog X.w X.K X.mg X.base X.A X.stack s H :=
 ⟨I.ok.frames,I.ok.mod,I.bs,Nat.le_trans I.ok.bsz I.sz,I.stack,I.stkFree,I.hok,I.bare⟩
theorem Inv.after{Q:VK}{u:Value}(I:Inv X pins σ H s)(h:CE X.stack X.prog X.w H s Q u s'):EP X pins σ Q u s':=by
 obtain ⟨v,H',os,bare,un,hok,r,q⟩:=h;obtain ⟨hh,g,d,t,os'⟩:=s'
 obtain rfl:os'=s.os:=os
 exact ⟨v,H',I.call (h':=hh) (g':=g) (d':=d) (t':=t) (ch:=[]) un hok bare (fun b z=>absurd z (by simp)),r,q⟩
end
def b3b(sp:Sp)(dvs:List V)(E:XK)(t:TA):TE:=fun σ H Q=>t σ H fun vs H1=>sp (vs ++ dvs) H1 Q E
def Binds(K:PySem.W.Frag)(fd:FuncData)(ps:List Str)(ds:List Value):Prop :=
 ∀ (s:Shared) (us:List Value),K.In s.heap->(us ++ ds).length=ps.length->BindsTo s fd ⟨us,[]⟩ (ps.zip (us ++ ds))
theorem Binds.all{K:PySem.W.Frag}{fd:FuncData}{ps:List Str}(h:∀ us:List Value,us.length=ps.length->bindArgs fd ⟨us,[]⟩=pure (ps.zip us)):Binds K fd ps []:=fun s us _ hl=>by
 rw [List.append_nil] at hl ⊢;exact .of_eq (h us hl)
def a2G(CX:CXT)(X:Cx)(E:XK):Prop:=∀ (pins:List (Addr×Obj)) (σ:St) (H:Hp) (s:Shared) (e:Value) (s':Shared),Inv X pins σ H s->CX X.stack H s E e s'->X.xe e s'
section
variable {X:Cx} {CX:CXT} {k:Nat} {f C:Addr} {fd:FuncData} {ps:List Str} {sp:Sp} {dvs:List V} {ds:List Value} {E:XK} {x m:Str} {p pos apos:Pos} {e o:Expr} {es:List Expr} {ta:TE} {t:TA}
theorem b6q{pins:List (Addr×Obj)}{σ:St}{H:Hp}{s:Shared}{Q:VK}{us:List Value}{vs:List V}(F:t8 X.prog X.w X.K X.mg X.base CX k f fd ps sp)(hr:Room k X.A)(hb:Binds X.K fd ps ds)(hd:Vals dvs ds)(hx:a2G CX X E)
  (I:Inv X pins σ H s) (r:Vals vs us) (h:sp (vs ++ dvs) H Q E):wpAny (model X.prog X.w) X.A (call (.ref f) us) (EP X pins σ Q) X.xe s:=by
 have r2:Vals (vs ++ dvs) (us ++ ds):=r.append hd;have hl:(us ++ ds).length=ps.length:=by rw [<- r2.length];exact F.len _ _ _ _ h
 refine wpAny_call (codeAny_mono (F.run X.A X.stack s H ⟨us,[]⟩ (us ++ ds) (vs ++ dvs) Q E hr I.env0 (hb s us I.kIn hl) r2 h) fun r s' hq=>?_)
 cases r with
 |error e=>exact hx pins σ H s e s' I hq
 |ok fl =>
  cases fl with
  |ret u=>exact I.after hq
  |next=>exact False.elim hq
  |brk=>exact False.elim hq
  |cont=>exact False.elim hq
theorem b0j(F:t8 X.prog X.w X.K X.mg X.base CX k f fd ps sp)(hr:Room k X.A)(hg:Gl X x)(hm:X.mg x=some (.ref f))(hk:PySem.W.keepIn X.K (.ref f)=true)(hb:Binds X.K fd ps ds)(hd:Vals dvs ds)(hx:a2G CX X E)
  (ha:PA X (e :: es) t) (hdb:(x == ("__debug__":Str))=false:=by decide) (he:starEach (e :: es) X.env=(false,eval e X.env) :: starEach es X.env:=by rfl) (hpl:(backTo pos (starEach es X.env)).any (·.1)=false:=by rfl) :
  PE X (.Call (.Name x p) (e :: es) [] pos) (b3b sp dvs E t):=by
 intro pins s σ H Q I h;refine wpAny_Call_Name_kw (a3Z I hg hm ?_ hdb);refine PySem.W.callWith_K (h₀:=X.base) I.ok.mod.kin hk (thn (ha pos pins s σ H _ I h) fun us s1 ⟨vs,H1,I1,r,q⟩=>⟨I1.kIn,?_⟩) he hpl;exact b6q F hr hb hd hx I1 r q
end
section
variable {X:Cx} {CX:CXT} {k:Nat} {f C:Addr} {fd:FuncData} {ps ks:List Str} {sp:Sp} {E:XK} {x m:Str} {p pos apos kpos:Pos} {e o:Expr} {es:List Expr} {kws:List Keyword} {te ta:TE} {t tk:TA} {nm:Option Str}
variable {g:List Value->List Value->List Value} {gV:List V->List V->List V}
end
structure j1(N P:List Str)(sc:Scope):Prop where
 kind:sc.kind = .function
 co:sc.isCoroutine=false
 gen:sc.isGenerator=false
 nd:N.Nodup
 pre:N.take P.length=P
 par:∀ x ∈ P,sc.names.lookup x=some .local\/sc.names.lookup x=some .cell
 nofree:∀ y ∈ sc.names,y.2 ≠ .free
theorem Z3{kindOf:Str->Option NameKind}{x:Str}:∀ {binds:List (Str×Value)} {m:Str->Option Value},(∀ v,(x,v) ∉ binds)->bindL kindOf binds m x=m x
 |[],_,_=>rfl
 |(n,v) :: r,m,h=>by
  unfold bindL;rw [Z3 fun w hw=>h w (List.mem_cons_of_mem _ hw)];split
  ·have:x ≠ n:=by rintro rfl;exact h v List.mem_cons_self
   simp [this]
  ·rfl
theorem Z8{kindOf:Str->Option NameKind}{x:Str}:∀ {binds:List (Str×Value)} {m:Str->Option Value},(∀ v,(x,v) ∉ binds)->bindC kindOf binds m x=m x
 |[],_,_=>rfl
 |(n,v) :: r,m,h=>by
  unfold bindC;rw [Z8 fun w hw=>h w (List.mem_cons_of_mem _ hw)];split
  ·rfl
  ·have:x ≠ n:=by rintro rfl;exact h v List.mem_cons_self
   simp [this]
theorem a0r{kindOf:Str->Option NameKind}{x:Str}{v:Value}:∀ {P:List Str} {vs:List Value} {i:Nat} {m:Str->Option Value},P.Nodup->P[i]?=some x->vs[i]?=some v->kindOf x=some .local ->
  bindL kindOf (P.zip vs) m x=some v
 |[],_,_,_,_,h,_,_=>by simp at h
 |_ :: _,[],_,_,_,_,h,_=>by simp at h
 |p :: P,w :: vs,0,m,nd,h1,h2,hk=>by
  simp at h1 h2;subst h1;subst h2;show bindL kindOf ((p,w) :: P.zip vs) m p=_;unfold bindL;rw [Z3 fun v hv=>(List.nodup_cons.mp nd).1 (List.of_mem_zip hv).1,if_pos hk]
  simp
 |p :: P,w :: vs,i + 1,m,nd,h1,h2,hk=>by
  show bindL kindOf ((p,w) :: P.zip vs) m x=_;unfold bindL;exact a0r (i:=i) (List.nodup_cons.mp nd).2 (by simpa using h1) (by simpa using h2) hk
theorem a0c{kindOf:Str->Option NameKind}{x:Str}{v:Value}:∀ {P:List Str} {vs:List Value} {i:Nat} {m:Str->Option Value},P.Nodup->P[i]?=some x->vs[i]?=some v->kindOf x ≠ some .local ->
  bindC kindOf (P.zip vs) m x=some v
 |[],_,_,_,_,h,_,_=>by simp at h
 |_ :: _,[],_,_,_,_,h,_=>by simp at h
 |p :: P,w :: vs,0,m,nd,h1,h2,hk=>by
  simp at h1 h2;subst h1;subst h2;show bindC kindOf ((p,w) :: P.zip vs) m p=_;unfold bindC;rw [Z8 fun v hv=>(List.nodup_cons.mp nd).1 (List.of_mem_zip hv).1,if_neg hk]
  simp
 |p :: P,w :: vs,i + 1,m,nd,h1,h2,hk=>by
  show bindC kindOf ((p,w) :: P.zip vs) m x=_;unfold bindC;exact a0c (i:=i) (List.nodup_cons.mp nd).2 (by simpa using h1) (by simpa using h2) hk
def start(N:List Str)(vs:List V):St:=vs.map some ++ List.replicate (N.length - vs.length) none
def a1c(CX:CXT)(P:Program)(w:World)(K:PySem.W.Frag)(mg:Str->Option Value)(base:Heap)(N:List Str)(qual:Str)(scope:Scope)(f:Addr)(cd:Value)(A:Around)(outer:List Env)(s:Shared)(H:Hp)(E:XK):Cx where
 prog:=P
 w:=w
 K:=K
 mg:=mg
 base:=base
 A:=A.deeper (envOfC qual scope s.heap.objs.size f cd)
 N:=N
 s₀:=s
 H₀:=H
 env:=envOfC qual scope s.heap.objs.size f cd
 outer:=outer
 stack:=envOfC qual scope s.heap.objs.size f cd :: outer
 ex:=[]
 calm:=true
 fn:=fun _=>true
 pn:=[]
 xe:=fun e s'=>wpAny (model P w) (A.deeper (envOfC qual scope s.heap.objs.size f cd)) (leaving (envOfC qual scope s.heap.objs.size f cd) e) (fun _ s''=>CX outer H s E e s'') (fun e' s''=>CX outer H s E e' s'') s'
theorem a1Q{sc:Scope}{n:Nat}{x:Str}(h:sc.names.lookup x=some .cell):∃ c,(cellsFrom n sc.names []).lookup x=some c:=by
 have q:=PySem.W.cellsFrom_some sc.names n [] (.inl h);exact Option.isSome_iff_exists.mp q
theorem a4c{CX:CXT}{P:Program}{w:World}{K:PySem.W.Frag}{mg:Str->Option Value}{base:Heap}{N ps:List Str}{qual:Str}{scope:Scope}{f:Addr}{cd:Value}{A:Around}{outer:List Env}{s s1:Shared}{H:Hp}{E:XK}{us:List Value}{vs:List V}
  (S:j1 N ps scope) (hd:A.handled=none) (e0:b1k P w K mg base A outer s H) (hl:vs.length=ps.length) (r:Vals vs us)
  (x:InCallC s s.heap.objs.size (bindL (envOfC qual scope s.heap.objs.size f cd).kindOf (ps.zip us) fun _=>none) (cellsFrom (s.heap.objs.size + 1) scope.names []) (bindC (envOfC qual scope s.heap.objs.size f cd).kindOf (ps.zip us) fun _=>none) s1) :
  Inv (a1c CX P w K mg base N qual scope f cd A outer s H E) [] (start N vs) H s1:=by
 have hpl:ps.length <= N.length:=by have:=congrArg List.length S.pre;rw [List.length_take] at this;omega
 obtain ⟨h1,tk,rfl,hk⟩:=x.done;have noA:∀ b:Addr,b ∉ (a1c CX P w K mg base N qual scope f cd A outer s H E).ex:=fun b z=>absurd (show b ∈ ([]:List Addr) from z) (by simp)
 refine ⟨⟨e0.mod,S.kind,rfl,rfl,Nat.le_refl _,fun y z c h1 h2=>?_,fun y hy=>?_,fun y c _ h=>?_,fun _=>hd,Around.frames_deeper e0.frames,.inr ⟨rfl,rfl⟩,fun b z=>absurd z (noA b),e0.bs,e0.bsz,fun b _ _=>noA b,fun b z=>absurd z (noA b),e0.funs,e0.frf⟩,
  rfl,e0.bare,Un.kept hk,⟨_,x.toInCall.ns,fun i y v h1 h2 h3=>?_⟩,fun y c h=>⟨_,x.cell y c h⟩,e0.hok.fresh (Nat.le_refl _),fun y c h=>?_,fun p hp=>absurd (show p ∈ ([]:List (Addr×Obj)) from hp) (by simp),e0.hok.kept hk,?_⟩
 ·exact name_of_addr x.apart (PySem.mem_of_lookup h1) (PySem.mem_of_lookup h2)
 ·have hy:scope.names.lookup y=some .cell\/scope.names.lookup y=some .free:=hy
  rcases hy with hy | hy
  ·exact a1Q hy
  ·exact absurd rfl (S.nofree _ (PySem.mem_of_lookup hy))
 ·exact Nat.le_of_lt (x.above y c (PySem.mem_of_lookup h))
 ·have hi:i < vs.length:=by
   unfold start at h2
   by_cases hi:i < vs.length
   ·exact hi
   ·rw [List.getElem?_append_right (by simpa using hi)] at h2;rw [List.getElem?_replicate] at h2
    split at h2 <;> cases h2
  have ha:vs[i]?=some v:=by
   unfold start at h2;rw [List.getElem?_append_left (by simpa using hi),List.getElem?_map] at h2
   cases e:vs[i]? with
   |none=>rw [e] at h2;cases h2
   |some a=>rw [e] at h2;cases h2;rfl
  obtain ⟨u,hu,rv⟩:=r.get ha
  have hp:ps[i]?=some y:=by
   rw [<- S.pre,List.getElem?_take_of_lt (by omega)];exact h1
  have ndP:ps.Nodup:=by rw [<- S.pre];exact S.nd.sublist (List.take_sublist _ _)
  refine ⟨u,rv,?_⟩
  rcases S.par y (List.mem_of_getElem? hp) with k | k
  ·exact .inl ⟨k,a0r ndP hp hu k⟩
  ·obtain ⟨c,e⟩:=a1Q (n:=s.heap.objs.size + 1) k;refine .inr ⟨.inl k,c,e,?_⟩;have q:=x.cell y c e;rw [a0c ndP hp hu (by show scope.names.lookup y ≠ _;rw [k];decide)] at q;exact q
 ·exact e0.hok.fresh (Nat.le_of_lt (x.above y c (PySem.mem_of_lookup h)))
 ·unfold start;show _=N.length;rw [List.length_append,List.length_map,List.length_replicate];omega
theorem b7y{CX:CXT}{P:Program}{w:World}{K:PySem.W.Frag}{mg:Str->Option Value}{base:Heap}{k:Nat}{f:Addr}{name qual:Str}{params:Arguments}{body:List Stmt}{scope:Scope}{dV kV doc pm cdv ct oc:Value}{an od:Option Addr}
  {osl:Array (Option Value)} {N ps:List Str} {sp:Sp} (lk:K.lookup f=some ⟨oc,od,.func (PySem.W.fnOf name qual params body scope dV kV doc pm an cdv ct),osl⟩) (hcd:PySem.W.codeIn K cdv qual=true) (S:j1 N ps scope)
  (len:∀ vs H Q E,sp vs H Q E->vs.length=ps.length)
  (hbody:∀ (A:Around) (outer:List Env) (s:Shared) (H:Hp) (vs:List V) (Q:VK) (E:XK),Room k (A.deeper (envOfC qual scope s.heap.objs.size f cdv))->sp vs H Q E ->
   ∃ t,PSs (a1c CX P w K mg base N qual scope f cdv A outer s H E) body t/\t { nx:=fun _ H'=>Q .non H',rt:=Q } (start N vs) H) :
  t8 P w K mg base CX (k + 1) f (PySem.W.fnOf name qual params body scope dV kV doc pm an cdv ct) ps sp:=by
 refine ⟨len,fun A outer s H args us vs Q E hr e0 hb r hsp=>?_⟩;have hl:=len _ _ _ _ hsp;have KX:K.In s.heap:=e0.mod.kin.keeps fun b o e=>(e0.bs b o e).1;have lim:s.heap.NoLimit:=e0.mod.nolimit.keeps fun b o e=>(e0.bs b o e).1
 have hkind:∀ y ∈ ps.zip us,scope.names.lookup y.1=some .local\/(scope.names.lookup y.1=some .cell/\((cellsFrom (s.heap.objs.size + 1) scope.names []).lookup y.1).isSome=true):=fun zz0 hy=>by
  obtain ⟨n,v⟩:=zz0
  rcases S.par n (List.of_mem_zip hy).1 with q | q
  ·exact .inl q
  ·exact .inr ⟨q,PySem.W.cellsFrom_some _ _ _ (.inl q)⟩
 refine codeAny_call_function hr.depth (KX _ _ lk) rfl S.co S.gen rfl (PySem.W.codeRec_of KX hcd) (hb _ _ _ _ ?_);refine wpAny_newFunctionEnv_cells S.kind hkind fun env he s1 x=>?_;subst he;refine ⟨lim.keeps x.toInCall.keep,codeAny_func ?_⟩;obtain ⟨t,ht,hq⟩:=hbody A outer s H vs Q E (hr.deeper _) hsp;have I:Inv (a1c CX P w K mg base N qual scope f cdv A outer s H E) [] (start N vs) H s1:=a4c S hr.hd e0 hl r x;refine wpAny_mono (ht [] s1 (start N vs) H _ I hq) (fun fl s' hs=>?_) fun e s' hs=>hs
 have fin:∀ {σ':St} {H':Hp} {v:V} {u:Value},Inv (a1c CX P w K mg base N qual scope f cdv A outer s H E) [] σ' H' s'->RelV v u->Q v H'->CE outer P w H s Q u s' :=
  fun {σ' H' v u} J rv q=>⟨v,H',J.os,J.bare,J.base,J.hok,rv,q⟩
 cases fl with
 |ret u =>
  obtain ⟨v,σ',H',J,rv,q⟩:=hs;exact fin J rv q
 |next =>
  obtain ⟨σ',H',J,q⟩:=hs;exact fin (v:=V.non) (u:=Value.none) J rfl q
 |brk =>
  obtain ⟨_,_,_,q⟩:=hs;exact False.elim q
 |cont =>
  obtain ⟨_,_,_,q⟩:=hs;exact False.elim q
end L2
namespace L2
open PySem PySem.Spec PyProof.Rows
section
variable {X:Cx} {x:Str} {p pos:Pos} {e:Expr} {es:List Expr} {t:TA} {id T:String} {r:List V->Hp->VK->Prop}
def tCB(r:List V->Hp->VK->Prop)(t:TA):TE:=fun σ H Q=>t σ H fun vs H1=>r vs H1 Q
theorem Y5(hc:CallR X (.builtin id) r)(hg:Gl X x)(hm:X.mg x=none)(hv:bootBuiltins x=some (.builtin id))(ha:PA X (e :: es) t)(hn:x ≠ "__name__":=by decide)(hdb:(x == ("__debug__":Str))=false:=by decide)
  (he:starEach (e :: es) X.env=(false,eval e X.env) :: starEach es X.env:=by rfl) (hpl:(backTo pos (starEach es X.env)).any (·.1)=false:=by rfl):PE X (.Call (.Name x p) (e :: es) [] pos) (tCB r t):=by
 intro pins s σ H Q I h;refine wpAny_Call_Name_kw (J9 I hg hm hv ?_ hn hdb);exact PyProof.Rows.callWith_builtin1 (thn (ha pos pins s σ H _ I h) fun us s1 ⟨vs,H1,I1,r1,q1⟩=>hc pins s1 σ H1 vs us Q I1 r1 q1) he hpl
theorem L1(hc:CallR X (.type T) r)(hg:Gl X x)(hm:X.mg x=none)(hv:bootBuiltins x=some (.type T))(ha:PA X (e :: es) t)(hn:x ≠ "__name__":=by decide)(hdb:(x == ("__debug__":Str))=false:=by decide)
  (he:starEach (e :: es) X.env=(false,eval e X.env) :: starEach es X.env:=by rfl) (hpl:(backTo pos (starEach es X.env)).any (·.1)=false:=by rfl):PE X (.Call (.Name x p) (e :: es) [] pos) (tCB r t):=by
 intro pins s σ H Q I h;refine wpAny_Call_Name_kw (J9 I hg hm hv ?_ hn hdb);exact PyProof.Rows.callWith_type1 (thn (ha pos pins s σ H _ I h) fun us s1 ⟨vs,H1,I1,r1,q1⟩=>hc pins s1 σ H1 vs us Q I1 r1 q1) he hpl
end
end L2
namespace L2
open PySem PySem.Spec PyProof.Rows
section
variable {κ:Type} [DecidableEq κ]
def F9(kvs:List (κ×V))(k:κ):Option V:=(kvs.find? fun kv=>decide (kv.1=k)).map (·.2)
def putK(kvs:List (κ×V))(k:κ)(v:V):List (κ×V) :=
 if (kvs.any fun kv=>decide (kv.1=k))=true then kvs.map (fun kv=>if kv.1=k then (kv.1,v) else kv) else kvs ++ [(k,v)]
theorem X5{p:κ×V}{r:List (κ×V)}{k:κ}(e:p.1=k):F9 (p :: r) k=some p.2:=by simp [F9,List.find?_cons,e]
theorem X6{p:κ×V}{r:List (κ×V)}{k:κ}(e:¬ p.1=k):F9 (p :: r) k=F9 r k:=by simp [F9,List.find?_cons,e]
theorem a1H(kvs:List (κ×V))(k:κ)(v:V):(putK kvs k v).length <= kvs.length + 1:=by
 unfold putK;split
 ·rw [List.length_map];omega
 ·rw [List.length_append,List.length_cons,List.length_nil];omega
theorem RelO.isSome_eq{o:Option V}{u:Option Value}(r:RelO o u):o.isSome=u.isSome:=by
 cases o with
 |none=>cases u with
  |none=>rfl
  |some _=>exact (show False from r).elim
 |some _=>cases u with
  |none=>exact (show False from r).elim
  |some _=>rfl
theorem KV.val{kvs:List (κ×V)}{vs:List (κ×Value)}(r:KV kvs vs)(k:κ):RelO (F9 kvs k) (valueAt vs k):=by
 unfold KV at r
 induction r with
 |nil=>exact True.intro
 |@cons p q ps qs h t ih =>
  obtain ⟨h1,h2⟩:=h
  by_cases e:p.1=k
  ·have e':q.1=k:=h1.symm.trans e;have b:valueAt (q :: qs) k=some q.2:=by simp [valueAt,List.find?_cons,e']
   rw [X5 e,b];exact h2
  ·have e':¬ q.1=k:=fun z=>e (h1.trans z);have b:valueAt (q :: qs) k=valueAt qs k:=by simp [valueAt,List.find?_cons,e']
   rw [X6 e,b];exact ih
theorem KV.any{kvs:List (κ×V)}{vs:List (κ×Value)}(r:KV kvs vs)(k:κ):(kvs.any fun kv=>decide (kv.1=k))=vs.any fun kv=>decide (kv.1=k):=by
 unfold KV at r
 induction r with
 |nil=>rfl
 |cons h t ih=>rw [List.any_cons,List.any_cons,ih,h.1]
theorem KV.repl{kvs:List (κ×V)}{vs:List (κ×Value)}(r:KV kvs vs)(k:κ){y:V}{u:Value}(ry:RelV y u) :
  KV (kvs.map fun kv=>if kv.1=k then (kv.1,y) else kv) (vs.map fun kv=>if kv.1=k then (kv.1,u) else kv):=by
 unfold KV at r ⊢
 induction r with
 |nil=>exact .nil
 |@cons p q ps qs h t ih =>
  rw [List.map_cons,List.map_cons];refine .cons ?_ ih;obtain ⟨h1,h2⟩:=h
  by_cases e:p.1=k
  ·rw [if_pos e,if_pos (h1.symm.trans e)];exact ⟨h1,ry⟩
  ·rw [if_neg e,if_neg (fun z=>e (h1.trans z))];exact ⟨h1,h2⟩
theorem KV.put{kvs:List (κ×V)}{vs:List (κ×Value)}(r:KV kvs vs)(k:κ){y:V}{u:Value}(ry:RelV y u):KV (putK kvs k y) (stored vs k u):=by
 unfold putK stored;rw [r.any k]
 by_cases e:(vs.any fun kv=>decide (kv.1=k))=true
 ·rw [if_pos e,if_pos e];exact r.repl k ry
 ·rw [if_neg e,if_neg e];exact Paired.snoc r ⟨rfl,ry⟩
theorem KV.length{kvs:List (κ×V)}{vs:List (κ×Value)}(r:KV kvs vs):kvs.length=vs.length:=Paired.length r
end
theorem a1E{P:Program}{w:World}{k:Key}{u:Value}(r:RelV (kV k) u):(n5 P w).is k u=true:=by
 cases k with
 |inl i=>obtain ⟨t,e⟩:=(show ∃ t,u=Value.int i t from r);subst e;exact a1a P w i t
 |inr x=>obtain ⟨t,e⟩:=(show ∃ t,u=Value.str x t from r);subst e;exact a1S P w x t
theorem a0j{P:Program}{w:World}:∀ {ks:List Key} {us:List Value},Vals (ks.map kV) us->ItemsAre (n5 P w) ks us
 |[],_,r=>by rw [List.map_nil] at r;cases r;exact .nil
 |k :: ks,_,r=>by
  rw [List.map_cons] at r
  cases r with
  |cons h t=>exact .cons (a1E h) (a0j t)
abbrev KT(H:Hp):List (List Key×V)->List (List Key×Addr×Value)->Prop:=Paired fun p q=>p.1=q.1/\H q.2.1=some (.tup (p.1.map kV))/\RelV p.2 q.2.2
theorem KT.val{H:Hp}{kvs:List (List Key×V)}{xs:List (List Key×Addr×Value)}(r:KT H kvs xs)(k:List Key):RelO (F9 kvs k) ((atKey xs k).map (·.2)):=by
 induction r with
 |nil=>exact True.intro
 |@cons p q ps qs h t ih =>
  obtain ⟨h1,_,h2⟩:=h
  by_cases e:p.1=k
  ·have e':q.1=k:=h1.symm.trans e;have b:atKey (q :: qs) k=some q.2:=by simp [atKey,List.find?_cons,e']
   rw [X5 e,b];exact h2
  ·have e':¬ q.1=k:=fun z=>e (h1.trans z);have b:atKey (q :: qs) k=atKey qs k:=by simp [atKey,List.find?_cons,e']
   rw [X6 e,b];exact ih
theorem KT.keeps{H H':Hp}{kvs:List (List Key×V)}{xs:List (List Key×Addr×Value)}(r:KT H kvs xs)(ht:∀ b ys,H b=some (.tup ys)->H' b=some (.tup ys)):KT H' kvs xs :=
 Paired.mapP r fun _ _ z=>⟨z.1,ht _ _ z.2.1,z.2.2⟩
section
variable {P:Program} {w:World} {H:Hp} {h:Heap} {a:Addr}
theorem b2W{u:HO}(ok:HOk P w H h)(e:Rd H a u):ObjOk P w H h a u:=e.ok ok
theorem a1y{kvs:List (Key×V)}(ok:HOk P w H h)(e:Rd H a (.dK kvs)):kvs.length <= sizeLine/\(a == sysModules)=false/\∃ vs,KV kvs vs/\h.DictOf (n5 P w) a vs :=
 show ObjOk P w H h a (.dK kvs) from b2W ok e
theorem b7L{kvs:List (Key×V)}(ok:HOk P w H h)(e:H a=some (.dK kvs)):kvs.length <= sizeLine/\(a == sysModules)=false/\∃ vs,KV kvs vs/\h.DictOf (n5 P w) a vs:=a1y ok (.inl e)
theorem a2n{ks:List Key}(ok:HOk P w H h)(e:H a=some (.tup (ks.map kV))):(tupleKind (n5 P w)).is h ks a:=by
 obtain ⟨_,its,r,o,h1,h2,n,h3⟩:=(show ObjOk P w H h a (.tup (ks.map kV)) from ok a _ e)
 exact ⟨o,its.toArray,n,h1,h2,h3,by simpa using a0j r⟩
theorem a3O{kvs:List (List Key×V)}(ok:HOk P w H h)(e:Rd H a (.dT kvs)):kvs.length <= sizeLine/\(a == sysModules)=false /\
  ∃ xs,KT H kvs xs/\h.DictOfH (tupleKind (n5 P w)) a xs:=by
 obtain ⟨z,y,xs,r,o,es,ep,h1,h2,h3,h4,h5⟩:=(show ObjOk P w H h a (.dT kvs) from b2W ok e)
 refine ⟨z,y,xs,r,o,es,ep,h1,h2,h3,h4,fun x hx=>?_,h5⟩
 have all:∀ {l:List (List Key×V)} {m:List (List Key×Addr×Value)},KT H l m->∀ x ∈ m,(tupleKind (n5 P w)).is h x.1 x.2.1:=by
  intro l m q
  induction q with
  |nil=>intro x hx;exact nomatch hx
  |@cons p q ps qs hq t ih =>
   intro x hx
   rcases List.mem_cons.mp hx with e | hx
   ·subst e;exact a2n ok (by rw [<- hq.1];exact hq.2.1)
   ·exact ih x hx
 exact all r x hx
end
def DGet(H:Hp)(a:Addr)(y:V)(r:Option V):Prop :=
 (∃ kvs k,Rd H a (.dK kvs)/\y=kV k/\r=F9 kvs k)\/∃ kvs k b,Rd H a (.dT kvs)/\y = .ref b/\H b=some (.tup (k.map kV))/\r=F9 kvs k
theorem DGet.k{H:Hp}{a:Addr}{kvs:List (Key×V)}{k:Key}(e:H a=some (.dK kvs)):DGet H a (kV k) (F9 kvs k):=.inl ⟨kvs,k,.inl e,rfl,rfl⟩
section
variable {X:Cx} {pins:List (Addr×Obj)} {σ:St} {H:Hp} {s:Shared} {a:Addr} {y v:V} {u r:Value} {o:Option V} {A:Around} {E:Value->Shared->Prop}
theorem Inv.big(I:Inv X pins σ H s):sysModules < s.heap.objs.size:=by
 have h:mainGlobals < s.heap.objs.size:=(I.mod.glob.keeps I.bk).lt;exact Nat.lt_trans (by decide) h
theorem a4M{Q:Value->Shared->Prop}(hu:A.units + 1 < cLine)(I:Inv X pins σ H s)(g:DGet H a y (some v))(ry:RelV y u)(h:∀ w' s',Inv X pins σ H s'->RelV v w'->Q w' s') :
  wpAny (model X.prog X.w) A (getItem (.ref a) u) Q E s:=by
 rcases g with ⟨kvs,k,e,ey,l⟩ | ⟨kvs,k,b,e,ey,eb,l⟩
 ·subst ey;obtain ⟨z,hd,vs,rel,dd⟩:=a1y I.hok e;obtain ⟨w',hw,rw'⟩:=RelO.some_of (v:=v) (o:=valueAt vs k) (by rw [l];exact rel.val k);exact wpAny_getItem_of (a1E ry) dd.mapOf hw (h w' _ (I.tok _) rw')
 ·subst ey
  cases (show u=Value.ref b from ry)
  obtain ⟨z,hd,xs,rel,dd⟩:=a3O I.hok e;obtain ⟨w',hw,rw'⟩:=RelO.some_of (v:=v) (o:=(atKey xs k).map (·.2)) (by rw [l];exact rel.val k);obtain ⟨p,hp,hp2⟩:=Option.map_eq_some_iff.mp hw;refine wpAny_getItem_heap (tupleKind_room_in1 hu) (a2n I.hok eb) dd hp ?_;rw [hp2];exact h w' _ (I.tok _) rw'
theorem c0q{Q:Value->Shared->Prop}(hu:A.units + 1 < cLine)(I:Inv X pins σ H s)(g:DGet H a y o)(ry:RelV y u)(h:∀ s',Inv X pins σ H s'->Q (.bool o.isSome) s') :
  wpAny (model X.prog X.w) A (compareOp .In u (.ref a)) Q E s:=by
 rcases g with ⟨kvs,k,e,ey,l⟩ | ⟨kvs,k,b,e,ey,eb,l⟩
 ·subst ey;obtain ⟨z,hd,vs,rel,dd⟩:=a1y I.hok e;refine wpAny_in_of (a1E ry) hd dd.mapOf ?_;rw [<- (rel.val k).isSome_eq,<- l];exact h _ (I.tok _)
 ·subst ey
  cases (show u=Value.ref b from ry)
  obtain ⟨z,hd,xs,rel,dd⟩:=a3O I.hok e;refine wpAny_in_heap (tupleKind_room_in1 hu) (a2n I.hok eb) hd dd ?_;have q:=(rel.val k).isSome_eq;rw [Option.isSome_map] at q;rw [<- q,<- l];exact h _ (I.tok _)
theorem b1h{h':Heap}{t':Nat}{ob:HO}(I:Inv X pins σ H s)(mu:Mut (H a))(hs:Heap.SameBut a s.heap h')(he:∃ q,h'.get? a=some q)(new:ObjOk X.prog X.w (upd H a ob) h' a ob) :
  Inv X pins σ (upd H a ob) { s with heap:=h',toks:=t' } :=
 I.write (x:=a) (e:=a) mu (.inl rfl) (fun b q hb z=>(hs.2 b hb).trans z) he new
theorem b4h{P:Program}{w:World}{H':Hp}{h':Heap}{kvs:List (Key×V)}{vs:List (Key×Value)}(z:kvs.length <= sizeLine)(hd:(a == sysModules)=false)(rel:KV kvs vs)(dd:h'.DictOf (n5 P w) a vs) :
  ObjOk P w H' h' a (.dK kvs):=⟨z,hd,vs,rel,dd⟩
end
section
variable {X:Cx} {pins:List (Addr×Obj)} {σ:St} {H:Hp} {s:Shared} {a:Addr} {kvs:List (Key×V)} {k:Key} {u:Value} {A:Around} {E:Value->Shared->Prop}
end
def b5Y(i:Expr):Prop:=∀ ov iv,subscripted i false ov iv=operate [ov,iv] (getItem ov iv)
theorem b1N{prog:Program}{w:World}{A:Around}{E:Value->Shared->Prop}{s:Shared}{env:Env}{value slice:Expr}{pos:Pos}{T id:String}{Q:Value->Shared->Prop}
  (hl:typeLookup (.type T) "__getitem__" = pure (some (.builtin id))) (hs:b5Y slice)
  (h:wpAny (model prog w) A (eval value env) (fun o s₁=>wpAny (model prog w) A (eval slice env) (fun i s₂=>s₂.TypeIs o T/\wpAny (model prog w) A (getItem o i) Q E s₂) E s₁) E s) :
  wpAny (model prog w) A (eval (.Subscript value slice pos) env) Q E s:=by
 refine Subscript_ (wpAny_mono h (fun o s₁ h₁=>wpAny_mono h₁ (fun i s₂ h₂=>?_) fun _ _ x=>x) fun _ _ x=>x);obtain ⟨hT,h₂⟩:=h₂;unfold subscriptTail;refine wpAny_bind ?_;rw [getitemInPython_of_ne hT.not_modules];refine wpAny_bind (wpAny_specialOf hT hl ?_)
 have fin:wpAny (model prog w) A (subscripted slice false o i) (fun r s₃=>wpAny (model prog w) A (letTemporaryGo value o r >>= fun _=>pure r) Q E s₃) E s₂:=by
  rw [hs o i];exact wpAny_operating (wpAny_mono h₂ (fun r s₃ h₃=>wpAny_bind (wpAny_letTemporaryGo (wpAny_pure h₃))) fun _ _ x=>x)
 first
  |exact wpAny_pure (wpAny_bind fin)
  |exact wpAny_bind (wpAny_pure (wpAny_bind fin))
  |exact wpAny_bind fin
theorem a1h{X:Cx}{pins:List (Addr×Obj)}{σ:St}{H:Hp}{s:Shared}{a:Addr}{y:V}{o:Option V}(I:Inv X pins σ H s)(g:DGet H a y o):s.TypeIs (.ref a) "dict":=by
 rcases g with ⟨kvs,k,e,_,_⟩ | ⟨kvs,k,b,e,_,_,_⟩
 ·obtain ⟨_,_,vs,_,dd⟩:=a1y I.hok e;exact dd.typeIs
 ·obtain ⟨_,_,xs,_,dd⟩:=a3O I.hok e;exact dd.typeIs
def b8p(td ty:TE):TE:=fun σ H Q=>td σ H fun x H1=>ty σ H1 fun y H2=>∃ a v,x = .ref a/\DGet H2 a y (some v)/\Q v H2
section
variable {X:Cx} {o i e value:Expr} {pos pos' tpos:Pos} {td ty tv:TE}
theorem b0v(hu:X.A.units + 1 < cLine)(ho:PE X o td)(hi:PE X i ty)(hs:b5Y i):PE X (.Subscript o i pos) (b8p td ty):=by
 intro pins s σ H Q I h;refine b1N PySem.F.slot_dict_getitem.lookup hs (thn (ho pins s σ H _ I h) fun u s1 ⟨x,H1,I1,rx,q1⟩=>thn (hi pins s1 σ H1 _ I1 q1) fun iv s2 zz0=>?_);obtain ⟨y,H2,I2,ry,a,v,ex,g,q2⟩:=zz0;subst ex
 obtain rfl:u=Value.ref a:=rx
 exact ⟨a1h I2 g,a4M hu I2 g ry fun w' s3 I3 rw'=>⟨v,H2,I3,rw',q2⟩⟩
end
theorem a7W{P:Program}{w:World}{H:Hp}(h:Heap)(hb:sysModules < h.objs.size):ObjOk P w H (h.push { cls:=.type "dict",data:=.dict #[] }) h.objs.size (.dK []) :=
 ⟨Nat.zero_le _,beq_eq_false_iff_ne.mpr (Ne.symm (Nat.ne_of_lt hb)),[],.nil,Heap.DictOf.new h⟩
def b6k:TE:=fun _ H Q=>∀ p,H p=none->Q (.ref p) (upd H p (.dK []))
section
variable {X:Cx} {pos:Pos}
theorem a6a:PE X (.Dict [] [] pos) b6k:=fun pins s σ H Q I h =>
 wpAny_Dict_empty ⟨.ref s.heap.objs.size,_,I.laid (a:=s.heap.objs.size) (o:=.dK []) (t':=s.toks) (fun _ _ q=>Heap.get?_push_of_some _ q) (Nat.le_refl _) (a7W s.heap I.big),rfl,h _ (I.hok.fresh (Nat.le_refl _))⟩
end
structure M2(X:Cx)(o:Expr)(m:Str)(apos:Pos)(e f:Expr)(cpos:Pos):Prop where
 base:attributeBase o m X.env (eval o X.env)=eval o X.env
 few:((backTo cpos (starEach [e,f] X.env)).all (fun x=>!x.1) && (backToKw cpos (keywordEach [] X.env)).all (fun x=>x.1.isSome)
  && decide (([e,f]:List Expr).length + ([]:List Keyword).length + (if ([]:List Keyword).isEmpty then 0 else 1) < 30))=true
 line:(apos.endLine == cpos.line)=true
 trees:backTo cpos (starEach [e,f] X.env)=[(false,eval e X.env),(false,eval f X.env)]
def IsD(H:Hp)(a:Addr):Prop:=(∃ kvs,Rd H a (.dK kvs))\/∃ kvs,Rd H a (.dT kvs)
theorem b5V{X:Cx}{pins:List (Addr×Obj)}{σ:St}{H:Hp}{s:Shared}{a:Addr}(I:Inv X pins σ H s)(d:IsD H a) :
  s.TypeIs (.ref a) "dict"/\(∀ b,Value.ref a = .ref b->∃ ob,s.heap.get? b=some ob/\ob.dict=none)/\(a == sysModules)=false:=by
 rcases d with ⟨kvs,e⟩ | ⟨kvs,e⟩
 ·obtain ⟨_,hd,vs,_,dd⟩:=a1y I.hok e;refine ⟨dd.typeIs,fun b q=>?_,hd⟩;cases q;obtain ⟨ob,_,_,h1,h2,_⟩:=dd;exact ⟨ob,h1,h2.2.1⟩
 ·obtain ⟨_,hd,xs,_,dd⟩:=a3O I.hok e;refine ⟨dd.typeIs,fun b q=>?_,hd⟩;cases q;obtain ⟨ob,_,_,h1,h2,_⟩:=dd;exact ⟨ob,h1,h2.2.1⟩
section
variable {X:Cx} {pins:List (Addr×Obj)} {σ:St} {H:Hp} {s:Shared} {a:Addr} {y d:V} {u r:Value} {o:Option V} {A:Around} {E:Value->Shared->Prop}
end
section
variable {X:Cx} {o e f:Expr} {apos cpos:Pos} {td ty tx:TE}
end
section
variable {X:Cx} {pins:List (Addr×Obj)} {σ:St} {H:Hp} {s:Shared} {a:Addr} {kvs:List (Key×V)} {A:Around} {E:Value->Shared->Prop}
end
section
variable {X:Cx} {pins:List (Addr×Obj)} {σ:St} {H:Hp} {s:Shared} {a:Addr} {y:V} {u:Value} {A:Around} {E:Value->Shared->Prop}
end
end L2
namespace HT
open PySem PyProof.Rows
def lexLt:List Int->List Int->Bool
 |[],[]=>false
 |[],_ :: _=>true
 |_ :: _,[]=>false
 |x :: xs,y :: ys=>if x=y then lexLt xs ys else decide (x < y)
section
open PySem.SeqAt
open PySem.AutoSeq1 (wpAny_loadPart')
open PySem.MeetsSeq PySem.MeetsSeq2 PySem.MeetsSeq3
end
section
variable {prog:Program} {w:World} {A:Around} {E:Value->Shared->Prop} {s:Shared}
theorem cat_tup{t b:Addr}{vs ws:List Value}{Q:Value->Shared->Prop}(ht:IsTup s.heap t vs.toArray)(hb:IsTup s.heap b ws.toArray)(hv:vs ≠ [])
  (h1:ws=[]->Q (.ref t) s) (h2:ws ≠ []->Q (.ref s.heap.objs.size) { s with heap:=s.heap.push { cls:=.type "tuple",data:=.seq (vs ++ ws).toArray } })
  (hsz:vs.length + ws.length <= sizeLine):wpAny (model prog w) A (binaryOp .Add (.ref t) (.ref b)) Q E s:=by
 obtain ⟨⟨cls,dd,data,sl⟩,ho,hc,n,hd⟩:=id ht;obtain ⟨⟨cls2,dd2,data2,sl2⟩,ho2,hc2,n2,hd2⟩:=id hb
 simp only at hc hd hc2 hd2
 subst hc hd hc2 hd2;have e:vs.toArray ++ ws.toArray=(vs ++ ws).toArray:=by simp
 by_cases hw:ws=[]
 ·exact concat_meets ⟨_,ho,rfl⟩ ⟨_,ho2,rfl⟩ noFill_tuple_add seq_tuple_add PySem.F.slot_tuple_add PySem.F.entry_tuple_add (PySem.F.args_tuple_add_2 _ _)
   (tuple_addW1 t b vs.toArray ws.toArray n n2 dd dd2 sl sl2 (by simpa using hv) (by simp [hw])) ⟨ho,ho2,h1 hw⟩
 ·refine concat_meets ⟨_,ho,rfl⟩ ⟨_,ho2,rfl⟩ noFill_tuple_add seq_tuple_add PySem.F.slot_tuple_add PySem.F.entry_tuple_add (PySem.F.args_tuple_add_2 _ _)
   (tuple_addW2 t b vs.toArray ws.toArray n n2 dd dd2 sl sl2 (by simpa using hv) (by simpa using hw) (by rw [List.size_toArray,List.size_toArray];exact hsz)) ⟨ho,ho2,?_⟩
  rw [e];exact h2 hw
def sIx(n d:Nat):Option Int->Nat
 |none=>d
 |some v=>if v < 0 then (v + (n:Int)).toNat else min v.toNat n
theorem sIx_nat(n d k:Nat):sIx n d (some (k:Int))=min k n:=by
 show (if (k:Int) < 0 then ((k:Int) + (n:Int)).toNat else min (k:Int).toNat n)=min k n;rw [if_neg (by omega),Int.toNat_natCast]
theorem b4i(n d:Nat)(hd:d <= n)(o:Option Int):sIx n d o <= n:=by
 cases o with
 |none=>exact hd
 |some v =>
  show (if v < 0 then (v + (n:Int)).toNat else min v.toNat n) <= n
  by_cases hv:v < 0
  ·rw [if_pos hv];omega
  ·rw [if_neg hv];exact Nat.min_le_right _ _
theorem a3C(v:Int)(n d:Nat):(if v < 0 then max (v + (n:Int)) 0 else min v (n:Int))=((sIx n d (some v):Nat):Int):=by
 show (if v < 0 then max (v + (n:Int)) 0 else min v (n:Int))=(((if v < 0 then (v + (n:Int)).toNat else min v.toNat n):Nat):Int)
 by_cases hv:v < 0
 ·simp only [if_pos hv];omega
 ·simp only [if_neg hv];omega
theorem a2A(lo hi:Option Int)(n:Nat):Builtin.Slice.sliceAdjust lo hi 1 (n:Int)=(((sIx n 0 lo:Nat):Int),((sIx n n hi:Nat):Int)):=by
 have h1:¬ ((1:Int) < 0):=by omega
 unfold Builtin.Slice.sliceAdjust;simp only [h1,if_false];refine Prod.ext ?_ ?_
 ·cases lo with
  |none=>rfl
  |some v=>exact a3C v n 0
 ·cases hi with
  |none=>rfl
  |some v=>exact a3C v n n
theorem a2d(i j:Nat):Builtin.Slice.slicePlaces (i:Int) (j:Int) 1=j - i:=by
 unfold Builtin.Slice.slicePlaces;have h1:(1:Int) > 0:=by omega
 simp only [h1,if_true,Int.ediv_one]
 split <;> omega
theorem W2{v:Value}{o:Option Int}{Q:Option Int->Shared->Prop}(p:IsPart v o)(h:Q o s):wpAny (model prog w) A (Builtin.Slice.slicePartIndex v) Q E s:=by
 cases p with
 |none=>exact slicePart_none h
 |int i t=>exact slicePart_int h
theorem G1{sl:Addr}{vl vu:Value}{lo hi:Option Int}{n:Nat}{Q:Int×Int×Nat->Shared->Prop}(hs:s.heap.IsSliceOf sl vl vu .none)(pl:IsPart vl lo)(pu:IsPart vu hi)
  (h:Q (((sIx n 0 lo:Nat):Int),1,sIx n n hi - sIx n 0 lo) s):wpAny (model prog w) A (Builtin.Slice.sliceApplied (.ref sl) (pure (n:Int))) Q E s:=by
 obtain ⟨os,hos,hcs,hds⟩:=id hs;unfold Builtin.Slice.sliceApplied Builtin.Slice.sliceFields;refine wpAny_bind (wpAny_bind (wpAny_field hos hds (x:=vl) rfl (wpAny_bind (wpAny_field hos hds (x:=vu) rfl (wpAny_bind (wpAny_field hos hds (x:=.none) rfl (wpAny_pure ?_)))))));refine wpAny_bind (slicePart_none ?_);show wpAny _ _ (if ((1:Int) == 0)=true then _ else _) _ _ s;rw [if_neg (by decide)];refine wpAny_bind (W2 pl (wpAny_bind (W2 pu (wpAny_bind (wpAny_pure ?_)))));show wpAny _ _ (match Builtin.Slice.sliceAdjust lo hi 1 (n:Int) with | (lo,hi)=>pure (lo,(1:Int),Builtin.Slice.slicePlaces lo hi 1)) _ _ s;rw [a2A lo hi n];show wpAny _ _ (pure (((sIx n 0 lo:Nat):Int),(1:Int),Builtin.Slice.slicePlaces ((sIx n 0 lo:Nat):Int) ((sIx n n hi:Nat):Int) 1)) _ _ s;rw [a2d];exact wpAny_pure h
theorem a6b(xs:Array Value)(i k:Nat):((List.range k).filterMap fun (m:Nat)=>xs[((i:Int) + (m:Int) * 1).toNat]?).toArray=((xs.toList.drop i).take k).toArray:=by
 have e:(fun (m:Nat)=>xs[((i:Int) + (m:Int) * 1).toNat]?)=fun m=>xs[i + m]?:=by
  funext m
  have:((i:Int) + (m:Int) * 1).toNat=i + m:=by omega
  rw [this]
 rw [e]
 have:=pick_run xs i k
 rw [List.filterMap_map] at this;have e2:((fun x=>xs[x]?) ∘ fun x=>i + x)=fun m=>xs[i + m]?:=rfl;rw [e2] at this;rw [this]
theorem getItem_tuple_cut{t sl:Addr}{items:Array Value}{vl vu:Value}{lo hi:Option Int}{Q:Value->Shared->Prop}(ht:IsTup s.heap t items)(hs:s.heap.IsSliceOf sl vl vu .none)(pl:IsPart vl lo)(pu:IsPart vu hi)
  (hw:¬ (sIx items.size 0 lo=0/\sIx items.size items.size hi=items.size))
  (h:Q (.ref s.heap.objs.size) { s with heap:=s.heap.push { cls:=.type "tuple",data:=.seq ((items.toList.drop (sIx items.size 0 lo)).take (sIx items.size items.size hi - sIx items.size 0 lo)).toArray } })
  (hsz:items.size <= sizeLine):wpAny (model prog w) A (getItem (.ref t) (.ref sl)) Q E s:=by
 have htake:sizeOk (.seq ((items.toList.drop (sIx items.size 0 lo)).take (sIx items.size items.size hi - sIx items.size 0 lo)).toArray):=by
  show ((items.toList.drop (sIx items.size 0 lo)).take (sIx items.size items.size hi - sIx items.size 0 lo)).toArray.size <= sizeLine;rw [List.size_toArray,List.length_take,List.length_drop,Array.length_toList];omega
 have hj:sIx items.size items.size hi <= items.size:=b4i _ _ (Nat.le_refl _) hi;obtain ⟨os,hos,hcs,hds⟩:=id hs;have hTs:s.TypeIs (.ref sl) "slice":=⟨os,hos,hcs⟩
 unfold getItem
 try with_reducible refine wpAny_holding ?_
 first | refine wpAny_bind (wpAny_pure ?_) | skip
 refine wpAny_bind (wpAny_sequenceKey ht.typeIs (by decide) ?_)
 refine wpAny_bind (wpAny_callSpecial?_slot (name:=Str.ofString "__getitem__") ht.typeIs PyProof.Rows.slot_tuple_getitem
  (wpAny_call_entry PyProof.Rows.slot_tuple_getitem ht.typeIs entry_tuple_getitem ?_ (args_tuple_getitem _ _)))
 show wpAny _ _ (Builtin.Tuple.tupleItemsOf (.ref t) >>= _) _ _ s;refine wpAny_bind (tupleItemsOf_ ht ?_);refine wpAny_bind (wpAny_typeOf hTs ?_);rw [if_pos (by decide)];refine wpAny_bind (G1 hs pl pu ?_)
 have hno:¬ ((((sIx items.size 0 lo:Nat):Int) == 0 && (1:Int) == 1 && (sIx items.size items.size hi - sIx items.size 0 lo) == items.size)=true):=by
  intro q;rw [Bool.and_eq_true,Bool.and_eq_true] at q;have q1:((sIx items.size 0 lo:Nat):Int)=0:=eq_of_beq q.1.1;have q2:sIx items.size items.size hi - sIx items.size 0 lo=items.size:=eq_of_beq q.2;exact hw ⟨by omega,by omega⟩
 show wpAny _ _ (if (((sIx items.size 0 lo:Nat):Int) == 0 && (1:Int) == 1 && (sIx items.size items.size hi - sIx items.size 0 lo) == items.size)=true then _ else _) _ _ s;rw [if_neg hno,a6b]
 first
  |exact wpAny_bind (m:=Builtin.Tuple.tupleExact _) (wpAny_newObj_type (wpAny_pure ⟨_,rfl,wpAny_pure h⟩) htake)
  |exact wpAny_bind (m:=Builtin.Tuple.tupleExact _) (wpAny_newObj_type (wpAny_bind (wpAny_pure (wpAny_pure ⟨_,rfl,wpAny_pure h⟩))) htake)
  |exact wpAny_bind (wpAny_bind (m:=Builtin.Tuple.tupleExact _) (wpAny_newObj_type (wpAny_pure (wpAny_pure ⟨_,rfl,wpAny_pure h⟩)) htake))
  |exact wpAny_bind (wpAny_bind (m:=Builtin.Tuple.tupleExact _) (wpAny_newObj_type (wpAny_pure ⟨_,rfl,wpAny_pure h⟩) htake))
end
end HT
namespace L2
open PySem PySem.Spec PyProof.Rows
abbrev TO:=St->Hp->(Option Int->Hp->Prop)->Prop
def PO(X:Cx)(e:Option Expr)(t:TO):Prop :=
 ∀ (pins:List (Addr×Obj)) (s:Shared) (σ:St) (H:Hp) (Q:Option Int->Hp->Prop),Inv X pins σ H s->t σ H Q ->
  wpAny (model X.prog X.w) X.A (evalPart e X.env) (fun u s'=>∃ o H',Inv X pins σ H' s'/\IsPart u o/\Q o H') X.xe s
def b2n:TO:=fun _ H Q=>Q none H
def b7G(t:TE):TO:=fun σ H Q=>t σ H fun x H1=>∃ i,x = .int i/\Q (some i) H1
theorem a2w{ns:List Int}:∀ {us:List Value},Vals (ns.map V.int) us->IntsAre us ns:=by
 induction ns with
 |nil=>intro us r;rw [List.map_nil] at r;cases r;exact .nil
 |cons n ns ih =>
  intro us r;rw [List.map_cons] at r
  cases r with
  |cons r1 r2 =>
   obtain ⟨t,e⟩:=r1;subst e;exact .cons n t (ih r2)
section
variable {X:Cx} {e:Expr} {te:TE} {lo hi:Option Expr} {tl th:TO} {pos p2:Pos}
theorem a9V:PO X none b2n:=by
 intro pins s σ H Q I h;rw [evalPart_none];exact wpAny_pure ⟨none,H,I,.none,h⟩
theorem a9A(h:PE X e te):PO X (some e) (b7G te):=by
 intro pins s σ H Q I hw;rw [evalPart_some];refine thn (h pins s σ H _ I hw) fun u s1 zz0=>?_;obtain ⟨x,H1,I1,r1,q1⟩:=zz0;obtain ⟨i,rfl,q⟩:=q1;obtain ⟨t,rfl⟩:=r1;exact ⟨some i,H1,I1,.int i t,q⟩
def SlR(X:Cx)(r:V->Option Int->Option Int->Hp->VK->Prop):Prop :=
 ∀ (pins:List (Addr×Obj)) (s:Shared) (σ:St) (H:Hp) (x:V) (v vl vu:Value) (lo hi:Option Int) (sl:Addr) (Q:VK),Inv X pins σ H s->RelV x v->s.heap.IsSliceOf sl vl vu .none->IsPart vl lo->IsPart vu hi->r x lo hi H Q ->
  ∃ T id,typeLookup (.type T) "__getitem__" = pure (some (.builtin id))/\s.TypeIs v T/\wpAny (model X.prog X.w) X.A (getItem v (.ref sl)) (EP X pins σ Q) X.xe s
theorem SlR.or{r r':V->Option Int->Option Int->Hp->VK->Prop}(h:SlR X r)(h':SlR X r'):SlR X (fun x lo hi H Q=>r x lo hi H Q\/r' x lo hi H Q):=by
 intro pins s σ H x v vl vu lo hi sl Q I rx hs pl pu q
 rcases q with q | q
 ·exact h pins s σ H x v vl vu lo hi sl Q I rx hs pl pu q
 ·exact h' pins s σ H x v vl vu lo hi sl Q I rx hs pl pu q
def tSl(r:V->Option Int->Option Int->Hp->VK->Prop)(te:TE)(tl th:TO):TE:=fun σ H Q=>te σ H fun x H1=>tl σ H1 fun l H2=>th σ H2 fun u H3=>r x l u H3 Q
theorem a1N{r:V->Option Int->Option Int->Hp->VK->Prop}(hr:SlR X r)(he:PE X e te)(hl:PO X lo tl)(hu:PO X hi th):PE X (.Subscript e (.Slice lo hi none p2) pos) (tSl r te tl th):=by
 intro pins s σ H Q I h;refine Subscript_ (thn (he pins s σ H _ I h) fun v s1 zz0=>?_);obtain ⟨x,H1,I1,r1,q1⟩:=zz0;refine wpAny_Slice (thn (hl pins s1 σ H1 _ I1 q1) fun vl s2 ⟨l,H2,I2,pl,q2⟩=>thn (hu pins s2 σ H2 _ I2 q2) fun vu s3 zz0=>?_);obtain ⟨u,H3,I3,pu,q3⟩:=zz0;rw [evalPart_none];refine wpAny_pure ?_;have I4:Inv X pins σ H3 { s3 with heap:=s3.heap.push { cls:=.type "slice",data:=.fields #[vl,vu,.none] } }:=I3.kept (t':=s3.toks) fun b ob q=>Heap.get?_push_of_some _ q;obtain ⟨T,id,hT,ht,hg⟩:=hr pins { s3 with heap:=s3.heap.push { cls:=.type "slice",data:=.fields #[vl,vu,.none] } } σ H3 x v vl vu l u s3.heap.objs.size Q I4 r1 (Heap.IsSliceOf.new ..) pl pu q3;show wpAny (model X.prog X.w) X.A (subscriptTail e (.Slice lo hi none p2) v (.ref s3.heap.objs.size)) (EP X pins σ Q) X.xe { s3 with heap:=s3.heap.push { cls:=.type "slice",data:=.fields #[vl,vu,.none] } };exact tail_any (ops:=[.ref s3.heap.objs.size,v]) ht hT hg (by with_unfolding_all rfl)
def N8(xs:List V)(lo hi:Option Int):List V:=(xs.drop (HT.sIx xs.length 0 lo)).take (HT.sIx xs.length xs.length hi - HT.sIx xs.length 0 lo)
theorem S6(xs:List V)(lo hi:Option Int):(N8 xs lo hi).length <= xs.length:=by
 unfold N8;rw [List.length_take,List.length_drop];omega
def c0d(K:PySem.W.Frag):V->Option Int->Option Int->Hp->VK->Prop:=fun x lo hi H Q=>∃ a xs,x = .ref a/\SqT K H a xs /\
 ¬ (HT.sIx xs.length 0 lo=0/\HT.sIx xs.length xs.length hi=xs.length)/\∀ p,H p=none->Q (.ref p) (upd H p (.tup (N8 xs lo hi)))
theorem b5O:SlR X (c0d X.K):=by
 intro pins s σ H x v vl vu lo hi sl Q I rx hs pl pu h;obtain ⟨a,xs,rfl,hx,hw,q⟩:=h;cases rx;obtain ⟨its,r,ht,hz⟩:=I.tuple hx;have hlen:its.toArray.size=xs.length:=by rw [List.size_toArray];exact r.length.symm
 refine ⟨"tuple",_,PyProof.Rows.slot_tuple_getitem.lookup,ht.typeIs,?_⟩;refine HT.getItem_tuple_cut ht hs pl pu (by rw [hlen];exact hw) ?_ (by rw [hlen];exact hz);rw [hlen];refine ⟨.ref s.heap.objs.size,_,I.laid (t':=s.toks) (o:=.tup (N8 xs lo hi)) (fun b ob q=>Heap.get?_push_of_some _ q) (Nat.le_refl _) ?_,rfl,q _ (I.hok.fresh (Nat.le_refl _))⟩;exact ⟨Nat.le_trans (S6 xs lo hi) hz,_,(r.drop (HT.sIx xs.length 0 lo)).take (HT.sIx xs.length xs.length hi - HT.sIx xs.length 0 lo),IsTup.new _ _⟩
def b8v(K:PySem.W.Frag):R2:=fun x y H Q=>∃ a b xs ys,x = .ref a/\y = .ref b/\SqT K H a xs/\SqT K H b ys/\xs ≠ []/\xs.length + ys.length <= sizeLine /\
 (ys=[]->Q (.ref a) H)/\(ys ≠ []->∀ p,H p=none->Q (.ref p) (upd H p (.tup (xs ++ ys))))
theorem Vals.nil_iff{xs:List V}{us:List Value}(r:Vals xs us):us=[] ↔ xs=[]:=by
 cases r with
 |nil=>simp
 |cons _ _=>simp
theorem b1e:OpR X (binaryOp .Add) (b8v X.K):=by
 intro pins s σ H x y v u Q I rx ry h;obtain ⟨a,b,xs,ys,rfl,rfl,ha,hb,hx,hz,q1,q2⟩:=h;cases rx;cases ry;obtain ⟨its,r1,p1,_⟩:=I.tuple ha;obtain ⟨its2,r2,p2,_⟩:=I.tuple hb;refine HT.cat_tup p1 p2 (fun z=>hx (r1.nil_iff.mp z)) (fun z=>⟨.ref a,H,I,rfl,q1 (r2.nil_iff.mp z)⟩) (fun z=>?_) (by rw [<- r1.length,<- r2.length];exact hz);refine ⟨.ref s.heap.objs.size,_,I.laid (t':=s.toks) (o:=.tup (xs ++ ys)) (fun b ob q=>Heap.get?_push_of_some _ q) (Nat.le_refl _) ?_,rfl,q2 (fun w=>z (r2.nil_iff.mpr w)) _ (I.hok.fresh (Nat.le_refl _))⟩;exact ⟨by rw [List.length_append];exact hz,_,r1.append r2,IsTup.new _ _⟩
end
end L2
namespace L2
open PySem PySem.Spec PyProof.Rows
def ixN(n:Nat)(i:Int):Option Nat:=if 0 <= i then (if i < n then some i.toNat else none) else if -(n:Int) <= i then some (i + n).toNat else none
def atI{α:Type}(xs:List α)(i:Int):Option α:=(ixN xs.length i).bind fun j=>xs[j]?
theorem a3a{n:Nat}{i:Int}{j:Nat}(h:ixN n i=some j):seqIndex? i n=some j/\j < n/\-(n:Int) <= i/\i < n:=by
 unfold ixN at h
 by_cases h0:0 <= i
 ·rw [if_pos h0] at h
  by_cases h1:i < n
  ·rw [if_pos h1] at h;have e:i.toNat=j:=Option.some.inj h;exact ⟨by rw [seqIndex_of h0 h1,e],by omega,by omega,h1⟩
  ·rw [if_neg h1] at h;cases h
 ·rw [if_neg h0] at h
  by_cases h1:-(n:Int) <= i
  ·rw [if_pos h1] at h;have e:(i + n).toNat=j:=Option.some.inj h;exact ⟨by rw [seqIndex_neg (by omega) h1,e],by omega,h1,by omega⟩
  ·rw [if_neg h1] at h;cases h
theorem a0z{α:Type}{xs:List α}{i:Int}{v:α}(h:atI xs i=some v):∃ j,seqIndex? i xs.length=some j/\xs[j]?=some v/\j < xs.length/\-(xs.length:Int) <= i/\i < xs.length:=by
 unfold atI at h
 cases e:ixN xs.length i with
 |none=>rw [e] at h;cases h
 |some j =>
  rw [e] at h;obtain ⟨h1,h2,h3,h4⟩:=a3a e;exact ⟨j,h1,h,h2,h3,h4⟩
def a3F(b:Expr):Prop:=∀ o i,subscripted b false o i=operate [o,i] (getItem o i)
def IxR(X:Cx)(r:R2):Prop :=
 ∀ (value slice:Expr) (pins:List (Addr×Obj)) (s:Shared) (σ:St) (H:Hp) (x y:V) (v u:Value) (Q:VK),Inv X pins σ H s->RelV x v->RelV y u->r x y H Q ->
  subscripted slice false v u=operate [v,u] (getItem v u)->wpAny (model X.prog X.w) X.A (subscriptTail value slice v u) (EP X pins σ Q) X.xe s
def MtR(X:Cx)(id:String)(r:V->List V->Hp->VK->Prop):Prop :=
 ∀ (pins:List (Addr×Obj)) (s:Shared) (σ:St) (H:Hp) (x:V) (xs:List V) (v:Value) (us:List Value) (Q:VK),Inv X pins σ H s->RelV x v->Vals xs us->r x xs H Q ->
  wpAny (model X.prog X.w) X.A (call (.builtin id) (v :: us)) (EP X pins σ Q) X.xe s
section
variable {X:Cx} {a b:Expr} {ta tb:TE} {pos:Pos}
theorem IxR.or{r r':R2}(h:IxR X r)(h':IxR X r'):IxR X (fun x y H Q=>r x y H Q\/r' x y H Q):=by
 intro value slice pins s σ H x y v u Q I rx ry q hs
 rcases q with q | q
 ·exact h value slice pins s σ H x y v u Q I rx ry q hs
 ·exact h' value slice pins s σ H x y v u Q I rx ry q hs
theorem b8J{r:R2}(hr:IxR X r)(ha:PE X a ta)(hb:PE X b tb)(hs:a3F b):PE X (.Subscript a b pos) (tOp r ta tb):=by
 intro pins s σ H Q I h;exact Subscript_ (b4X ha hb I h fun v u s2 x y H2 I2 rx ry q=>hr a b pins s2 σ H2 x y v u Q I2 rx ry q (hs _ _))
def b8I(K:PySem.W.Frag):R2:=fun x y H Q=>∃ p xs i v,x = .ref p/\y = .int i/\SqL K H p xs/\atI xs i=some v/\Q v H
def b7T(K:PySem.W.Frag):R2:=fun x y H Q=>∃ p xs i v,x = .ref p/\y = .int i/\SqT K H p xs/\atI xs i=some v/\Q v H
def b7n:R2:=fun x y H Q=>∃ z i c,x = .str z/\y = .int i/\z.length <= sizeLine/\atI z.cps.toList i=some c/\Q (.str ⟨#[c]⟩) H
theorem ix_list:IxR X (b8I X.K):=by
 intro value slice pins s σ H x y v u Q I rx ry h hs;obtain ⟨p,xs,i,z,rfl,rfl,hq,he,q⟩:=h;cases rx;obtain ⟨t,rfl⟩:=ry;obtain ⟨its,r,pl,hz⟩:=I.list hq;obtain ⟨j,h1,h2,h3,h4,h5⟩:=a0z he;obtain ⟨w,ew,rw'⟩:=r.get h2;have hl:=r.length;have hn:=R6;have fin:EP X pins σ Q w s:=⟨z,H,I,rw',q⟩
 by_cases h0:0 <= i
 ·have hj:i.toNat=j:=by
   rw [seqIndex_of h0 h5] at h1;exact Option.some.inj h1
  exact item_listR pl.isList h0 (by omega) (by rw [hj];simpa using ew) fin hs
 ·have hj:(i + (its.toArray.size:Int)).toNat=j:=by
   rw [seqIndex_neg (by omega) h4] at h1;rw [List.size_toArray,<- hl];exact Option.some.inj h1
  exact subscriptTail_builtinR (x:=w) pl.isList.typeIs slot_list_getitem.lookup
   (wpAny_getItem_list_neg (Q:=fun r s'=>r=w/\EP X pins σ Q r s') pl.isList (by omega) (by rw [List.size_toArray] <;> omega) (by omega) (by rw [hj];simpa using ew) ⟨rfl,fin⟩) hs
theorem ix_tup:IxR X (b7T X.K):=by
 intro value slice pins s σ H x y v u Q I rx ry h hs;obtain ⟨p,xs,i,z,rfl,rfl,hq,he,q⟩:=h;cases rx;obtain ⟨t,rfl⟩:=ry;obtain ⟨its,r,pl,hz⟩:=I.tuple hq;obtain ⟨j,h1,h2,h3,h4,h5⟩:=a0z he;obtain ⟨w,ew,rw'⟩:=r.get h2;have hl:=r.length;have hn:=R6;have fin:EP X pins σ Q w s:=⟨z,H,I,rw',q⟩
 exact subscriptTail_builtinR (x:=w) pl.typeIs slot_tuple_getitem.lookup
  (getItem_tuple (j:=j) (Q:=fun r s'=>r=w/\EP X pins σ Q r s') pl (by omega) (by omega) (by rw [List.size_toArray,<- hl];exact h1) (by simpa using ew) ⟨rfl,fin⟩) hs
theorem b6i:IxR X b7n:=by
 intro value slice pins s σ H x y v u Q I rx ry h hs;obtain ⟨z,i,c,rfl,rfl,hz,he,q⟩:=h;obtain ⟨t,rfl⟩:=rx;obtain ⟨t',rfl⟩:=ry;obtain ⟨j,h1,h2,h3,h4,h5⟩:=a0z he;have hl:z.cps.toList.length=z.length:=by simp [Str.length]
 rw [hl] at h1 h4 h5;have hn:=R6
 exact tail_any (typeIs_str s z t) slot_str_getitem.lookup (getItem_str (c:=c) (by
  have e1:decide (i < -(2 ^ 63:Int))=false:=decide_eq_false (by omega);have e2:decide (i ≥ 2 ^ 63)=false:=decide_eq_false (by omega);rw [e1,e2,Bool.or_false]) (by rw [h1];simpa using h2) ⟨.str ⟨#[c]⟩,H,I.tok _,⟨_,rfl⟩,q⟩) hs
def rIx(K:PySem.W.Frag):R2:=fun x y H Q=>b8I K x y H Q\/b7T K x y H Q\/b7n x y H Q
theorem b4y:IxR X (rIx X.K):=ix_list.or (ix_tup.or b6i)
theorem a2y(its:List Value)(n j:Nat)(u:Value):Obj.mapSeq (·.setIfInBounds j u) { cls:=.type "list",data:=.seq its.toArray n }={ cls:=.type "list",data:=.seq (its.set j u).toArray n }:=by
 simp [Obj.mapSeq]
theorem Inv.lst{pins:List (Addr×Obj)}{σ:St}{H:Hp}{s:Shared}{p:Addr}{xs:List V}(I:Inv X pins σ H s)(h:H p=some (.lst xs)) :
  ∃ (its:List Value) (n:Nat),Vals xs its/\s.heap.get? p=some { cls:=.type "list",data:=.seq its.toArray n }/\xs.length <= sizeLine:=by
 obtain ⟨z,its,n,r,e⟩:=I.hok p _ h;exact ⟨its,n,r,e,z⟩
theorem Inv.lstUpd{pins:List (Addr×Obj)}{σ:St}{H:Hp}{s:Shared}{p:Addr}{xs ys:List V}{its its':List Value}{n n':Nat}{f:Obj->Obj}(I:Inv X pins σ H s)(h:H p=some (.lst xs))
  (ho:s.heap.get? p=some { cls:=.type "list",data:=.seq its.toArray n }) (hf:f { cls:=.type "list",data:=.seq its.toArray n }={ cls:=.type "list",data:=.seq its'.toArray n' }) (r:Vals ys its') (hz:ys.length <= sizeLine) (t:Nat) :
  Inv X pins σ (upd H p (.lst ys)) { s with heap:=s.heap.update p f,toks:=t }:=by
 have e:(s.heap.update p f).get? p=some { cls:=.type "list",data:=.seq its'.toArray n' }:=by
  rw [Heap.get?_update_self f ho (by rw [hf] <;> rfl),hf]
 refine I.write (x:=p) (e:=p) (by rw [h];trivial) (.inl rfl) (fun b u hb q=>(Heap.get?_update_other _ _ (Ne.symm hb)).trans q) ⟨_,e⟩ ?_;exact ⟨hz,its',n',r,e⟩
def b2t:V->V->V->Hp->(Hp->Prop)->Prop:=fun o i v H Q=>∃ p xs k j,o = .ref p/\i = .int k/\H p=some (.lst xs)/\ixN xs.length k=some j/\Q (upd H p (.lst (xs.set j v)))
theorem a7E:b8y X b2t:=by
 intro pins s σ H o i v ov iv u Q I ro ri rv h;obtain ⟨p,xs,k,j,rfl,rfl,hp,hj,q⟩:=h;cases ro;obtain ⟨t,rfl⟩:=ri;obtain ⟨its,n,r,ho,hz⟩:=I.lst hp;obtain ⟨h1,h2,h3,h4⟩:=a3a hj;have hl:=r.length;have hn:=R6
 have I':Inv X pins σ (upd H p (.lst (xs.set j v))) { s with heap:=s.heap.update p (Obj.mapSeq (·.setIfInBounds j u)) } :=
  I.lstUpd hp ho (a2y its n j u) (r.set rv j) (by rw [List.length_set];exact hz) s.toks
 by_cases h0:0 <= k
 ·have hk:k.toNat=j:=by
   rw [seqIndex_of h0 h4] at h1;exact Option.some.inj h1
  exact PySem.W.ki_setAt ho h0 (by omega) (by rw [List.size_toArray,<- hl];exact h4) (by rw [hk];exact ⟨_,I',q⟩)
 ·have hk:(k + (its.toArray.size:Int)).toNat=j:=by
   rw [seqIndex_neg (by omega) h3] at h1;rw [List.size_toArray,<- hl];exact Option.some.inj h1
  exact PySem.W.ki_setBack ho (by omega) (by rw [List.size_toArray,<- hl];exact h3) (by omega) (by rw [hk];exact ⟨_,I',q⟩)
theorem a0A(lo hi:Option Int)(n:Nat):(sliceBounds lo hi none n).1=((HT.sIx n 0 lo:Nat):Int)/\(sliceBounds lo hi none n).2.1=((HT.sIx n n hi:Nat):Int)/\(sliceBounds lo hi none n).2.2=1:=by
 refine ⟨?_,?_,rfl⟩
 ·cases lo with
  |none=>simp [sliceBounds,HT.sIx]
  |some i =>
   simp only [sliceBounds,HT.sIx,Option.getD_none,show (1:Int) > 0 by decide,if_true]
   by_cases h:i < 0
   ·simp only [h,if_true] <;> omega
   ·simp only [h,if_false] <;> omega
 ·cases hi with
  |none=>simp [sliceBounds,HT.sIx]
  |some i =>
   simp only [sliceBounds,HT.sIx,Option.getD_none,show (1:Int) > 0 by decide,if_true]
   by_cases h:i < 0
   ·simp only [h,if_true] <;> omega
   ·simp only [h,if_false] <;> omega
theorem Y9(its:List Value)(lo hi:Option Int):slicePick its.toArray lo hi none=((its.drop (HT.sIx its.length 0 lo)).take (HT.sIx its.length its.length hi - HT.sIx its.length 0 lo)).toArray:=by
 obtain ⟨h1,h2,h3⟩:=a0A lo hi its.toArray.size;unfold slicePick;rw [h1,h2,h3];simp only [sliceRange_one,pick_run,List.size_toArray] <;> rfl
def b9G(K:PySem.W.Frag):V->Option Int->Option Int->Hp->VK->Prop:=fun x lo hi H Q=>∃ a xs,x = .ref a/\SqL K H a xs/\∀ p,H p=none->Q (.ref p) (upd H p (.lst (N8 xs lo hi)))
theorem b1p:SlR X (b9G X.K):=by
 intro pins s σ H x v vl vu lo hi sl Q I rx hs pl pu h;obtain ⟨a,xs,rfl,hx,q⟩:=h;cases rx;obtain ⟨its,r,ht,hz⟩:=I.list hx;have hlen:=r.length;refine ⟨"list",_,slot_list_getitem.lookup,ht.isList.typeIs,?_⟩;refine wpAny_getItem_list_slice ht.isList hs pl pu .none (by simp) ?_ (by rw [List.size_toArray] <;> omega);rw [Y9,<- hlen];refine ⟨.ref s.heap.objs.size,_,I.laid (t':=s.toks) (o:=.lst (N8 xs lo hi)) (fun b ob q=>Heap.get?_push_of_some _ q) (Nat.le_refl _) ?_,rfl,q _ (I.hok.fresh (Nat.le_refl _))⟩;exact ⟨Nat.le_trans (S6 xs lo hi) hz,_,0,(r.drop (HT.sIx xs.length 0 lo)).take (HT.sIx xs.length xs.length hi - HT.sIx xs.length 0 lo),Heap.get?_push_size _ rfl⟩
def L9:V->Bool
 |.non=>true
 |.bl _=>true
 |.int _=>true
 |.str _=>true
 |_=>false
def eqV:V->V->Bool
 |.non,.non=>true
 |.bl a,.bl b=>a == b
 |.bl a,.int b=>(if a then 1 else 0) == b
 |.int a,.bl b=>a == (if b then 1 else 0)
 |.int a,.int b=>a == b
 |.str a,.str b=>a == b
 |_,_=>false
theorem b6R{A:Around}{s:Shared}{y x:V}{u v:Value}(ry:RelV y u)(rx:RelV x v)(fy:L9 y=true)(fx:L9 x=true):SeqAt.EqAt A s u v (eqV y x):=by
 cases y with
 |non =>
  cases ry
  cases x with
  |non=>cases rx;exact SeqAt.EqAt.same _
  |bl b=>cases rx;exact SeqAt.EqAt.none_bool b
  |int b=>obtain ⟨t,rfl⟩:=rx;exact SeqAt.EqAt.none_int b t
  |str b=>obtain ⟨t,rfl⟩:=rx;exact SeqAt.EqAt.none_str b t
  |_=>exact absurd (show false=true from fx) Bool.false_ne_true
 |bl a =>
  cases ry
  cases x with
  |non=>cases rx;exact SeqAt.EqAt.bool_none a
  |bl b=>cases rx;exact SeqAt.EqAt.bool_bool a b
  |int b=>obtain ⟨t,rfl⟩:=rx;exact SeqAt.EqAt.bool_int a b t
  |str b=>obtain ⟨t,rfl⟩:=rx;exact SeqAt.EqAt.bool_str a b t
  |_=>exact absurd (show false=true from fx) Bool.false_ne_true
 |int a =>
  obtain ⟨t',rfl⟩:=ry
  cases x with
  |non=>cases rx;exact SeqAt.EqAt.int_none a t'
  |bl b=>cases rx;exact SeqAt.EqAt.int_bool a t' b
  |int b=>obtain ⟨t,rfl⟩:=rx;exact SeqAt.EqAt.int_int a t' b t
  |str b=>obtain ⟨t,rfl⟩:=rx;exact SeqAt.EqAt.int_str a t' b t
  |_=>exact absurd (show false=true from fx) Bool.false_ne_true
 |str a =>
  obtain ⟨t',rfl⟩:=ry
  cases x with
  |non=>cases rx;exact SeqAt.EqAt.str_none a t'
  |bl b=>cases rx;exact SeqAt.EqAt.str_bool a t' b
  |int b=>obtain ⟨t,rfl⟩:=rx;exact SeqAt.EqAt.str_int a t' b t
  |str b=>obtain ⟨t,rfl⟩:=rx;exact SeqAt.EqAt.str_str a t' b t
  |_=>exact absurd (show false=true from fx) Bool.false_ne_true
 |_=>exact absurd (show false=true from fy) Bool.false_ne_true
def eqU(x:V)(u:Value):Bool:=match u with
 |.none=>eqV .non x
 |.bool b=>eqV (.bl b) x
 |.int i _=>eqV (.int i) x
 |.str z _=>eqV (.str z) x
 |_=>false
theorem a7C{x y:V}{u:Value}(r:RelV y u)(f:L9 y=true):eqU x u=eqV y x:=by
 cases y with
 |non=>cases r;rfl
 |bl b=>cases r;rfl
 |int i=>obtain ⟨t,rfl⟩:=r;rfl
 |str z=>obtain ⟨t,rfl⟩:=r;rfl
 |_=>exact absurd (show false=true from f) Bool.false_ne_true
theorem P5{x:V}:∀ {xs:List V} {us:List Value},Vals xs us->xs.all L9=true->us.any (eqU x)=xs.any fun y=>eqV y x
 |_,_,.nil,_=>rfl
 |y :: xs,u :: us,.cons r t,f=>by
  rw [List.all_cons,Bool.and_eq_true] at f;rw [List.any_cons,List.any_cons,a7C r f.1,P5 t f.2]
theorem J6{A:Around}{s:Shared}{x:V}{v:Value}(rx:RelV x v)(fx:L9 x=true):∀ {xs:List V} {us:List Value},Vals xs us->xs.all L9=true->∀ u ∈ us,SeqAt.EqAt A s u v (eqU x u)
 |_,_,.nil,_=>fun u hu=>by cases hu
 |y :: xs,u :: us,.cons r t,f=>fun u' hu=>by
  rw [List.all_cons,Bool.and_eq_true] at f
  rcases List.mem_cons.mp hu with rfl | hu
  ·rw [a7C r f.1];exact b6R r rx f.1 fx
  ·exact J6 rx fx t f.2 u' hu
def inV(x:V)(xs:List V):Bool:=xs.any fun y=>eqV y x
def rIn(K:PySem.W.Frag)(neg:Bool):R2:=fun x y H Q=>∃ p xs,y = .ref p/\(SqL K H p xs\/SqT K H p xs)/\L9 x=true/\xs.all L9=true/\Q (.bl (if neg then !inV x xs else inV x xs)) H
theorem a0t:OpR X (compareOp .In) (rIn X.K false):=by
 intro pins s σ H x y v u Q I rx ry h;obtain ⟨p,xs,rfl,hq,fx,fs,q⟩:=h;cases ry
 rcases hq with hq | hq
 ·obtain ⟨its,r,pl,hz⟩:=I.list hq;refine SeqAt.in_listAt (eqU x) pl.isList (fun w hw=>J6 rx fx r fs w (by simpa using hw)) ⟨.bl _,H,I,rfl,?_⟩;rw [show its.toArray.any (eqU x)=its.any (eqU x) by simp,P5 r fs];exact q
 ·obtain ⟨its,r,pl,hz⟩:=I.tuple hq;refine SeqAt.in_tupleAt (eqU x) pl (fun w hw=>J6 rx fx r fs w (by simpa using hw)) ⟨.bl _,H,I,rfl,?_⟩;rw [show its.toArray.any (eqU x)=its.any (eqU x) by simp,P5 r fs];exact q
theorem P8:OpR X (compareOp .NotIn) (rIn X.K true):=by
 intro pins s σ H x y v u Q I rx ry h;obtain ⟨p,xs,rfl,hq,fx,fs,q⟩:=h;cases ry
 rcases hq with hq | hq
 ·obtain ⟨its,r,pl,hz⟩:=I.list hq;refine SeqAt.notIn_listAt (eqU x) pl.isList (fun w hw=>J6 rx fx r fs w (by simpa using hw)) ⟨.bl _,H,I,rfl,?_⟩;rw [show its.toArray.any (eqU x)=its.any (eqU x) by simp,P5 r fs];exact q
 ·obtain ⟨its,r,pl,hz⟩:=I.tuple hq;refine SeqAt.notIn_tupleAt (eqU x) pl (fun w hw=>J6 rx fx r fs w (by simpa using hw)) ⟨.bl _,H,I,rfl,?_⟩;rw [show its.toArray.any (eqU x)=its.any (eqU x) by simp,P5 r fs];exact q
theorem a0P:CallR X (.type "list") (fun xs H Q=>∃ p ys,xs=[.ref p]/\(SqL X.K H p ys\/SqT X.K H p ys)/\∀ l,H l=none->Q (.ref l) (upd H l (.lst ys))):=by
 intro pins s σ H xs us Q I r h;obtain ⟨p,ys,rfl,hq,q⟩:=h;obtain ⟨u,rfl,rx⟩:=A8 r;cases rx
 have fin:∀ (its:List Value),Vals ys its->ys.length <= sizeLine->∀ (h':Heap) (c':Nat),(∀ b o',s.heap.get? b=some o'->h'.get? b=some o') ->
   h'.get? s.heap.objs.size=some { cls:=.type "list",dict:=none,data:=.seq its.toArray c',slots:=#[] }->EP X pins σ Q (.ref s.heap.objs.size) { s with heap:=h' }:=fun its r' hz h' c' kp e =>
  ⟨.ref s.heap.objs.size,_,I.laid (t':=s.toks) kp (Nat.le_refl _) (show ObjOk X.prog X.w _ h' _ (.lst ys) from ⟨hz,its,c',r',e⟩),rfl,q _ (I.hok.fresh (Nat.le_refl _))⟩
 rcases hq with hq | hq
 ·obtain ⟨its,r',pl,hz⟩:=I.list hq;have hlen:=r'.length;obtain ⟨o,ho,hc,n,hd⟩:=pl.isList;exact call_list_seq p (.inl rfl) ho hc hd (fun h' c' kp e=>fin its r' hz h' c' kp e) (by simp only [List.size_toArray] <;> omega)
 ·obtain ⟨its,r',pl,hz⟩:=I.tuple hq;have hlen:=r'.length;obtain ⟨o,ho,hc,n,hd⟩:=pl;exact call_list_seq p (.inr rfl) ho hc hd (fun h' c' kp e=>fin its r' hz h' c' kp e) (by simp only [List.size_toArray] <;> omega)
theorem Y8:CallR X (.type "tuple") (fun xs H Q=>∃ p ys,xs=[.ref p]/\((SqL X.K H p ys/\∀ l,H l=none->Q (.ref l) (upd H l (.tup ys)))\/(SqT X.K H p ys/\Q (.ref p) H))):=by
 intro pins s σ H xs us Q I r h;obtain ⟨p,ys,rfl,h⟩:=h;obtain ⟨u,rfl,rx⟩:=A8 r;cases rx
 rcases h with ⟨hq,q⟩ | ⟨hq,q⟩
 ·obtain ⟨its,r',pl,hz⟩:=I.list hq;have hlen:=r'.length;refine call_tuple_list pl.isList (fun h' kp=>?_) (by simp only [List.size_toArray] <;> omega);have I1:Inv X pins σ H { s with heap:=h' }:=I.kept (t':=s.toks) kp
  have I2:Inv X pins σ (upd H h'.objs.size (.tup ys)) { s with heap:=h'.push { cls:=.type "tuple",data:=.seq its.toArray } } :=
   I1.laid (t':=s.toks) (fun b o e=>Heap.get?_push_of_some _ e) (Nat.le_refl _) (show ObjOk X.prog X.w _ _ _ (.tup ys) from ⟨hz,its,r',IsTup.new _ _⟩)
  exact ⟨.ref h'.objs.size,_,I2,rfl,q _ (I1.hok.fresh (Nat.le_refl _))⟩
 ·obtain ⟨its,r',pl,hz⟩:=I.tuple hq;exact call_tuple_same pl ⟨.ref p,H,I,rfl,q⟩
def tyV(K:PySem.W.Frag)(T:String)(x:V)(H:Hp):Prop:=match x with
 |.str _=>T = "str"
 |.int _=>T = "int"
 |.ref p=>(T = "list"/\∃ xs,SqL K H p xs)\/(T = "tuple"/\∃ o,K.lookup p=some o/\o.cls = .type "tuple"/\o.dict=none) \/
   (T = "dict"/\((∃ kvs,H p=some (.dK kvs))\/∃ kvs,H p=some (.dT kvs)))\/(T = "set"/\∃ S n,H p=some (.set S n))
 |_=>False
theorem a6G{pins:List (Addr×Obj)}{σ:St}{H:Hp}{s:Shared}{T:String}{x:V}{v:Value}(I:Inv X pins σ H s)(r:RelV x v)(ty:tyV X.K T x H) :
  s.TypeIs v T/\∀ a,v = .ref a->∃ ob,s.heap.get? a=some ob/\ob.dict=none:=by
 cases x with
 |str z =>
  obtain ⟨t,rfl⟩:=r
  cases (show T = "str" from ty)
  exact ⟨typeIs_str s z t,fun _ e=>nomatch e⟩
 |int i =>
  obtain ⟨t,rfl⟩:=r
  cases (show T = "int" from ty)
  exact ⟨typeIs_int s i t,fun _ e=>nomatch e⟩
 |ref p =>
  cases r
  rcases ty with ⟨rfl,xs,hq⟩ | ⟨rfl,o,hk,hc,hd⟩ | ⟨rfl,hk⟩ | ⟨rfl,S,n,hk⟩
  ·obtain ⟨its,_,pl,_⟩:=I.list hq;refine ⟨pl.isList.typeIs,fun a e=>?_⟩;cases e;obtain ⟨o,n,e,c,hd,_⟩:=pl;exact ⟨o,e,hd⟩
  ·refine ⟨⟨o,I.kIn p o hk,hc⟩,fun a e=>?_⟩;cases e;exact ⟨o,I.kIn _ o hk,hd⟩
  ·have z:∃ o,s.heap.get? p=some o/\o.ExactDict:=by
    rcases hk with ⟨kvs,hk⟩ | ⟨kvs,hk⟩
    ·obtain ⟨_,_,_,_,o,_,_,e,ex,_⟩:=I.hok p _ hk;exact ⟨o,e,ex⟩
    ·obtain ⟨_,_,_,_,o,_,_,e,ex,_⟩:=I.hok p _ hk;exact ⟨o,e,ex⟩
   obtain ⟨o,e,ex⟩:=z;refine ⟨⟨o,e,ex.1⟩,fun a e2=>?_⟩;cases e2;exact ⟨o,e,ex.2.1⟩
  ·obtain ⟨o,_,_,_,e,ex,_⟩:=I.hok p _ hk;refine ⟨⟨o,e,ex.1⟩,fun a e2=>?_⟩;cases e2;exact ⟨o,e,ex.2.1⟩
 |_=>exact False.elim ty
def c0g(K:PySem.W.Frag)(T:String)(r:V->List V->Hp->VK->Prop)(to:TE):TE:=fun σ H Q=>to σ H fun x H1=>tyV K T x H1/\r x [] H1 Q
def tBM(K:PySem.W.Frag)(T:String)(r:V->List V->Hp->VK->Prop)(to:TE)(t:TA):TE:=fun σ H Q=>to σ H fun x H1=>tyV K T x H1/\t σ H1 fun xs H2=>r x xs H2 Q
variable {o e:Expr} {es:List Expr} {to:TE} {t:TA} {name:Str} {apos cpos:Pos} {T id:String} {r:V->List V->Hp->VK->Prop}
theorem a5L(pa:PlainAttrs T)(slot:Slot T name id)(hty:typeOf (.builtin id)=pure (.type "method_descriptor"))(hm:MtR X id r)(ho:PE X o to)
  (hbase:attributeBase o name X.env (eval o X.env)=eval o X.env:=by rfl) (hline:(apos.endLine == cpos.line)=true:=by rfl):PE X (.Call (.Attribute o name apos) [] [] cpos) (c0g X.K T r to):=by
 intro pins s σ H Q I h;refine wpAny_Call_method0_late hbase hline (thn (ho pins s σ H _ I h) fun v s1 zz0=>?_);obtain ⟨x,H1,I1,r1,ty,q1⟩:=zz0;obtain ⟨h1,h2⟩:=a6G I1 r1 ty;exact ⟨T,id,pa,slot,hty,h1,h2,Calls.callWith_builtin rfl (PySem.evalArgs_none (hm pins s1 σ H1 x [] v [] Q I1 r1 .nil q1))⟩
theorem X3(pa:PlainAttrs T)(slot:Slot T name id)(hty:typeOf (.builtin id)=pure (.type "method_descriptor"))(hm:MtR X id r)(ho:PE X o to)(ha:PA X (e :: es) t)
  (hbase:attributeBase o name X.env (eval o X.env)=eval o X.env:=by rfl)
  (hfew:((backTo cpos (starEach (e :: es) X.env)).all (fun x=>!x.1) && (backToKw cpos (keywordEach [] X.env)).all (fun x=>x.1.isSome)
   && decide ((e :: es).length + ([]:List Keyword).length + (if ([]:List Keyword).isEmpty then 0 else 1) < 30))=true:=by rfl)
  (hline:(apos.endLine == cpos.line)=true:=by rfl) (hs:starEach (e :: es) X.env=(false,eval e X.env) :: starEach es X.env:=by rfl) (hplain:(backTo cpos (starEach es X.env)).any (·.1)=false:=by rfl) :
  PE X (.Call (.Attribute o name apos) (e :: es) [] cpos) (tBM X.K T r to t):=by
 intro pins s σ H Q I h;refine wpAny_Call_method_late hbase hfew hline rfl (thn (ho pins s σ H _ I h) fun v s1 zz0=>?_);obtain ⟨x,H1,I1,r1,ty,q1⟩:=zz0;obtain ⟨h1,h2⟩:=a6G I1 r1 ty;refine ⟨T,id,pa,slot,hty,h1,h2,?_⟩;have hA:=ha cpos pins s1 σ H1 _ I1 q1;rw [hs] at hA ⊢;refine Calls.callWith_builtin (by show (false || (backTo cpos (starEach es X.env)).any (·.1))=false;rw [hplain] <;> rfl) (Calls.evalArgs_plain ?_);exact thn hA fun us s2 ⟨vs,H2,I2,r2,q2⟩=>hm pins s2 σ H2 x vs v us Q I2 r1 r2 q2
end
end L2
namespace L2
open PySem PySem.Spec PyProof.Rows
def MtM(X:Cx)(id:String)(r:V->List V->Hp->VK->Prop):Prop :=
 ∀ (pins:List (Addr×Obj)) (s:Shared) (σ:St) (H:Hp) (x:V) (xs:List V) (v:Value) (us:List Value) (Q:VK),Inv X pins σ H s->RelV x v->Vals xs us->r x xs H Q ->
  wpAny (model X.prog X.w) X.A (call (.builtin id) (v :: us)) (EP X pins σ Q) X.xe s
theorem Vals.one{x:V}{us:List Value}(h:Vals [x] us):∃ u,us=[u]/\RelV x u:=by
 cases h with
 |cons r t=>cases t;exact ⟨_,rfl,r⟩
theorem Vals.zero:∀ {us:List Value},Vals [] us->us=[]
 |_,.nil=>rfl
theorem Vals.dropLast{xs:List V}{us:List Value}(h:Vals xs us):Vals xs.dropLast us.dropLast:=by
 induction h with
 |nil=>exact .nil
 |cons r t ih =>
  cases t with
  |nil=>exact .nil
  |cons q t'=>exact .cons r ih
theorem Vals.rep{xs:List V}{us:List Value}(h:Vals xs us):∀ k:Nat,Vals (List.replicate k xs).flatten (List.replicate k us).flatten
 |0=>.nil
 |k + 1=>by
  rw [List.replicate_succ,List.replicate_succ,List.flatten_cons,List.flatten_cons];exact Vals.append h (Vals.rep h k)
theorem a2e{α:Type}(l:List α):l.eraseIdx (l.length - 1)=l.dropLast:=by
 induction l with
 |nil=>rfl
 |cons a r ih =>
  cases r with
  |nil=>rfl
  |cons b r =>
   have e:(a :: b :: r).length - 1=((b :: r).length - 1) + 1:=by
    have h1:(a :: b :: r).length=r.length + 2:=rfl;have h2:(b :: r).length=r.length + 1:=rfl;omega
   rw [e,List.eraseIdx_cons_succ,ih]
   all_goals rfl
theorem Z9(its:List Value):∀ (k:Nat) (acc:List Value),
  List.foldl (fun x1 x2=>x1 ++ x2) acc.toArray (List.replicate k its.toArray)=(acc ++ (List.replicate k its).flatten).toArray
 |0,acc=>by simp
 |k + 1,acc=>by
  have e:acc.toArray ++ its.toArray=(acc ++ its).toArray:=by simp
  have e2:(acc ++ its) ++ (List.replicate k its).flatten=acc ++ (List.replicate (k + 1) its).flatten:=by
   rw [List.replicate_succ,List.flatten_cons,List.append_assoc]
  rw [<- e2,<- Z9 its k (acc ++ its),<- e,List.replicate_succ,List.foldl_cons]
section
variable {X:Cx} {pins:List (Addr×Obj)} {σ:St} {H:Hp} {s:Shared} {l b:Addr} {xs ys zs:List V}
theorem Inv.lset{its its':List Value}{n:Nat}{f:Array Value->Array Value}{t':Nat}(I:Inv X pins σ H s)(hH:H l=some (.lst xs))
  (e:s.heap.get? l=some { cls:=.type "list",data:=.seq its.toArray n }) (hf:f its.toArray=its'.toArray) (hv:Vals ys its') (hz:ys.length <= sizeLine) :
  Inv X pins σ (upd H l (.lst ys)) { s with heap:=s.heap.update l (Obj.mapSeq f),toks:=t' }:=by
 have q:=PySem.IsL.update e f;rw [hf] at q;refine I.write (x:=l) (e:=l) (by rw [hH];exact trivial) (.inl rfl) (fun b' u hb hu=>(Heap.get?_update_other s.heap (Obj.mapSeq f) (Ne.symm hb)).trans hu) ⟨_,q⟩ ?_;exact ⟨hz,its',_,hv,q⟩
theorem Inv.lnew{its:List Value}{t':Nat}(I:Inv X pins σ H s)(hv:Vals ys its)(hz:ys.length <= sizeLine) :
  Inv X pins σ (upd H s.heap.objs.size (.lst ys)) { s with heap:=s.heap.push { cls:=.type "list",data:=.seq its.toArray },toks:=t' } :=
 I.laid (fun _ _ q=>Heap.get?_push_of_some _ q) (Nat.le_refl _) ⟨hz,its,0,hv,Heap.get?_push_size _ rfl⟩
theorem Inv.fresh(I:Inv X pins σ H s):H s.heap.objs.size=none:=I.hok.fresh (Nat.le_refl _)
theorem Inv.lstM(I:Inv X pins σ H s)(hH:H l=some (.lst xs)):xs.length <= sizeLine/\∃ (its:List Value) (n:Nat),Vals xs its/\xs.length=its.length/\s.heap.get? l=some { cls:=.type "list",data:=.seq its.toArray n }:=by
 obtain ⟨z,its,n,r,e⟩:=I.hok l _ hH;exact ⟨z,its,n,r,r.length,e⟩
theorem a1P{n:Nat}(h:n <= sizeLine):Builtin.List.listTooLong n=false:=by
 unfold Builtin.List.listTooLong;exact decide_eq_false (by omega)
end
section
variable {X:Cx}
def b1s:V->List V->Hp->VK->Prop:=fun x vs H Q=>∃ l xs y,x = .ref l/\vs=[y]/\H l=some (.lst xs)/\xs.length < sizeLine/\Q .non (upd H l (.lst (xs ++ [y])))
theorem a4S:MtM X "list.append" b1s:=by
 intro pins s σ H x vs v us Q I rx rv h;obtain ⟨l,xs,y,rfl,rfl,hH,hz,q⟩:=h;cases rx;obtain ⟨u,rfl,ru⟩:=rv.one;obtain ⟨z,its,n,r,hl,e⟩:=I.lstM hH;refine call_meets F.slot_list_append ⟨_,e,rfl⟩ F.entry_list_append (F.args_list_append_2 _ _) (PySem.list_append l its.toArray n u (by rw [List.size_toArray];omega)) ⟨e,?_⟩;refine ⟨.non,_,I.lset (its':=its ++ [u]) hH e (by simp) (r.append (.cons ru .nil)) ?_,rfl,q⟩;rw [List.length_append,List.length_singleton];omega
def b1n:V->List V->Hp->VK->Prop:=fun x vs H Q=>∃ l b xs zs,x = .ref l/\vs=[.ref b]/\H l=some (.lst xs)/\H b=some (.lst zs)/\xs.length + zs.length <= sizeLine/\Q .non (upd H l (.lst (xs ++ zs)))
theorem a4V:MtM X "list.extend" b1n:=by
 intro pins s σ H x vs v us Q I rx rv h;obtain ⟨l,b,xs,zs,rfl,rfl,hH,hB,hz,q⟩:=h;cases rx;obtain ⟨u,rfl,ru⟩:=rv.one;cases ru;obtain ⟨z,its,n,r,hl,e⟩:=I.lstM hH;obtain ⟨z2,its2,n2,r2,hl2,e2⟩:=I.lstM hB;have hsz:its.toArray.size + its2.toArray.size <= sizeLine:=by rw [List.size_toArray,List.size_toArray];omega
 have hlong:¬ (!its.toArray.isEmpty && Builtin.List.listTooLong (its.toArray.size + its2.toArray.size))=true:=by
  rw [a1P hsz,Bool.and_false];exact Bool.false_ne_true
 refine call_meets F.slot_list_extend ⟨_,e,rfl⟩ F.entry_list_extend (F.args_list_extend_2 _ _)
  (AutoSeq1.list_extend_list_list_0 l its.toArray n b its2.toArray n2 hlong (by rw [List.size_toArray];omega) (by omega)) ⟨e,e2,?_⟩
 refine ⟨.non,_,I.lset (its':=its ++ its2) hH e (by simp) (r.append r2) ?_,rfl,q⟩;rw [List.length_append];omega
def b9L:V->List V->Hp->VK->Prop:=fun x vs H Q=>∃ l xs y,x = .ref l/\vs=[]/\H l=some (.lst xs)/\xs[xs.length - 1]?=some y/\Q y (upd H l (.lst xs.dropLast))
theorem b9W:MtM X "list.pop" b9L:=by
 intro pins s σ H x vs v us Q I rx rv h;obtain ⟨l,xs,y,rfl,rfl,hH,hy,q⟩:=h;cases rx;have hus:=rv.zero;subst hus;obtain ⟨z,its,n,r,hl,e⟩:=I.lstM hH;obtain ⟨u,hu,ru⟩:=r.get hy
 have hy':its.toArray[its.toArray.size - 1]?=some u:=by
  show its.toArray[its.length - 1]?=some u;rw [<- Array.getElem?_toList,<- hl];exact hu
 refine call_meets F.slot_list_pop ⟨_,e,rfl⟩ F.entry_list_pop (F.args_list_pop_1 _) (MeetsSeq.list_pop_last l its.toArray n u hy' (by rw [List.size_toArray];omega)) ⟨e,?_⟩;refine ⟨y,_,I.lset (its':=its.dropLast) hH e ?_ r.dropLast ?_,ru,q⟩
 ·show its.toArray.eraseIdxIfInBounds (its.toArray.size - 1)=its.dropLast.toArray;rw [List.size_toArray,List.eraseIdxIfInBounds_toArray,a2e]
 ·rw [List.length_dropLast];omega
def b4I:V->List V->Hp->VK->Prop:=fun x vs H Q=>∃ l xs,x = .ref l/\vs=[]/\H l=some (.lst xs)/\Q .non (upd H l (.lst []))
theorem a5w:MtM X "list.clear" b4I:=by
 intro pins s σ H x vs v us Q I rx rv h;obtain ⟨l,xs,rfl,rfl,hH,q⟩:=h;cases rx;have hus:=rv.zero;subst hus;obtain ⟨z,its,n,r,hl,e⟩:=I.lstM hH;refine call_meets F.slot_list_clear ⟨_,e,rfl⟩ F.entry_list_clear (F.args_list_clear_1 _) (AutoSeq1.list_clear_list_0 l its.toArray n (by rw [List.size_toArray];omega)) ⟨e,?_⟩;exact ⟨.non,_,I.lset (its':=[]) (ys:=[]) hH e rfl .nil (Nat.zero_le _),rfl,q⟩
def c0e:R2:=fun x y H Q=>∃ l b xs zs,x = .ref l/\y = .ref b/\H l=some (.lst xs)/\H b=some (.lst zs)/\xs.length + zs.length <= sizeLine/\∀ p,H p=none->Q (.ref p) (upd H p (.lst (xs ++ zs)))
theorem op_cat:OpR X (binaryOp .Add) c0e:=by
 intro pins s σ H x y v u Q I rx ry h;obtain ⟨l,b,xs,zs,rfl,rfl,hH,hB,hz,q⟩:=h;cases rx;cases ry;obtain ⟨z,its,n,r,hl,e⟩:=I.lstM hH;obtain ⟨z2,its2,n2,r2,hl2,e2⟩:=I.lstM hB;refine PySem.P.add_list e e2 ?_ (by rw [List.size_toArray,List.size_toArray];omega);have ea:its.toArray ++ its2.toArray=(its ++ its2).toArray:=by simp
 rw [ea];exact ⟨.ref _,_,I.lnew (t':=s.toks) (r.append r2) (by rw [List.length_append];omega),rfl,q _ I.fresh⟩
def c0j:R2:=fun x y H Q=>∃ l k xs,x = .ref l/\y = .int k/\H l=some (.lst xs)/\-(2 ^ 63) <= k/\k < 2 ^ 63/\xs.length * k.toNat <= sizeLine /\
 ∀ p,H p=none->Q (.ref p) (upd H p (.lst (List.replicate k.toNat xs).flatten))
theorem b0E{α:Type}(xs:List α)(k:Nat):(List.replicate k xs).flatten.length=k * xs.length:=by
 induction k with
 |zero=>simp
 |succ k ih=>rw [List.replicate_succ,List.flatten_cons,List.length_append,ih,Nat.succ_mul,Nat.add_comm]
theorem b4T:OpR X (binaryOp .Mult) c0j:=by
 intro pins s σ H x y v u Q I rx ry h;obtain ⟨l,k,xs,rfl,rfl,hH,h1,h2,hz,q⟩:=h;cases rx;obtain ⟨t,rfl⟩:=ry;obtain ⟨z,its,n,r,hl,e⟩:=I.lstM hH;have hlen:its.toArray.size * k.toNat <= sizeLine:=by rw [List.size_toArray,<- hl];exact hz
 have hcap:¬ its.toArray.size * k.toNat > (2 ^ 63 - 1) / 8:=by
  have:(sizeLine:Nat) <= (2 ^ 63 - 1) / 8:=by decide
  omega
 have hfit:¬ (!Builtin.List.listFitsIndex k)=true:=by
  rw [fitsIndex_both h1 h2];exact Bool.false_ne_true
 have hlong:¬ Builtin.List.listTooLong (its.toArray.size * k.toNat)=true:=by
  rw [a1P hlen];exact Bool.false_ne_true
 have hnew:List.foldl (fun x1 x2=>x1 ++ x2) #[] (List.replicate (if its.toArray.isEmpty=true then 0 else k.toNat) its.toArray)=(List.replicate k.toNat its).flatten.toArray:=by
  have f0:∀ m:Nat,List.foldl (fun x1 x2=>x1 ++ x2) #[] (List.replicate m its.toArray)=(List.replicate m its).flatten.toArray:=fun m=>by
   have:=Z9 its m []
   rw [List.nil_append] at this;exact this
  rw [f0]
  cases its with
  |nil=>simp
  |cons a r'=>rw [if_neg (by simp)]
 refine wpAny_binaryOp_repeat_ref (T:= "list") (U:= "int") (by decide) ⟨_,e,rfl⟩ (fun s'=>typeIs_int s' k t) noFill_list_mul F.fills_int_mul F.slot_int_rmul repeat_list F.slot_int_index.lookup
  (call_meets F.slot_int_rmul (typeIs_int s k t) F.entry_int_rmul (F.args_int_rmul_2 _ _) (int___rmul___int_list k t l its.toArray n)
   ⟨e,rfl,⟨_,e,rfl⟩,call_meets F.slot_list_mul ⟨_,e,rfl⟩ F.entry_list_mul (F.args_list_mul_2 _ _) (AutoListH.list___mul___list_int_3 l its.toArray n k t hfit hcap hlong) ⟨e,?_⟩⟩)
 rw [hnew];exact ⟨.ref _,_,I.lnew (t':=s.toks) (r.rep k.toNat) (by rw [b0E,Nat.mul_comm];exact hz),rfl,q _ I.fresh⟩
end
section
variable {prog:Program} {w:World} {A:Around} {E:Value->Shared->Prop} {s:Shared}
end
section
variable {X:Cx}
end
end L2
namespace Att
open PySem PySem.W PySem.Calls PyProof.Rows
theorem T8{P:Params}{h:Heap}:∀ (ns:List Int) (vs:List Value),WellAll P h vs (ns.map WData.int)->IntsAre vs ns:=by
 intro ns
 induction ns with
 |nil =>
  intro vs w;rw [List.map_nil] at w;cases w;exact .nil
 |cons n ns ih =>
  intro vs w;rw [List.map_cons] at w
  cases w with
  |cons a b =>
   cases a;exact .cons _ _ (ih _ b)
theorem a4j{l:OpenLaw}{n:Nat}(hn:l.most=some n){P:Params}{h:Heap}{args:List WData}{vals:List Value}
  (hpre:l.row.toRowW.claim.pre args=true) (hwl:WellAll P h vals args) :
  ∃ a vs ns,vals=[Value.ref a]/\args=[WData.list (ns.map WData.int)]/\h.get? a=some { cls:=.type "list",data:=.seq vs.toArray }/\IntsAre vs ns/\ns.length <= n:=by
 have hsh:WShape.hasAll [] args [.list .int]=true:=(pre_splitW hpre).1;have hc:l.pre.holds [] { args:=args }=true:=(pre_splitW hpre).2;obtain ⟨d,r,rfl,h1,h2⟩:=hasAllW_cons hsh
 obtain rfl:=hasAllW_nil h2
 obtain ⟨xs,rfl,h3⟩:=hasW_list h1;obtain ⟨ns,rfl⟩:=items_int h3
 have hlen:ns.length <= n:=by
  unfold OpenLaw.pre at hc
  have h4:(WTm.not (.lt (.lit (.int (n:Int))) (.len (.arg 0)))).holds [] { args:=[.list (ns.map .int)] }=true:=by
   have h4:=(holds_andW hc).1;rw [hn] at h4;exact h4
  have h5:=condW_of h4 (w_not (w_lt w_lit (w_len_list (w_arg rfl))));rw [List.length_map] at h5;refine Nat.le_of_not_lt fun q=>?_;have q':(n:Int) < ((ns.length:Nat):Int):=by omega
  first
   |(rw [decide_eq_true q'] at h5;exact absurd h5 (by decide))
   |(simp at h5;omega)
 cases hwl with
 |cons w1 w2 =>
  cases w2
  cases w1 with
  |list ho hall=>exact ⟨_,_,ns,rfl,rfl,ho,T8 ns _ hall,hlen⟩
theorem a4K(l:OpenLaw)(args:List WData):l.row.toRowW.claim.post args (.bool true) args=true :=
 postW_of (r:=l.row.toRowW) (X:=(true == true))
  (show WShape.has [] (.bool true) .bool=true by first | rfl | decide | simp [WShape.has,WShape.arms,WShape.armsAll])
  (show (WTm.eq .res (.lit (.bool true))).value [] { args:=args,res:=some (.bool true),after:=args }=some (.bool (true == true)) from w_eq_bool (w_res rfl) w_lit) rfl
section
variable {prog:Program} {w:World} {A:Around} {E:Value->Shared->Prop} {s:Shared} {K:Frag}
end
end Att
namespace L2
open PySem PySem.Spec PyProof.Rows
theorem a0n:∀ {vs:List Value} {ns:List Int},IntsAre vs ns->Vals (ns.map V.int) vs
 |_,_,.nil=>.nil
 |_,_,.cons n t h=>.cons ⟨t,rfl⟩ (a0n h)
def b8z(H:Hp):Prop:=∀ b,H b=none\/∃ o xs,H b=some (.frz o (.lst xs))
theorem law_call{P:Program}{w:World}{K:PySem.W.Frag}{mg mb:Str->Option Value}{CX:CXT}{k:Nat}{fa a:Addr}{fd:FuncData}{x:Str}{sp:Sp}{s₁:Shared}{vs:List Value}{ns:List Int}
  (KX:K.In s₁.heap) (hns:s₁.heap.Ns mainGlobals mg) (hb:s₁.heap.Ns builtinsNs mb) (hbb:∀ x:Str,x ≠ "__name__"->mb x=bootBuiltins x) (hlim:s₁.heap.NoLimit) (hg:s₁.gens = #[])
  (ha:s₁.heap.get? a=some { cls:=.type "list",data:=.seq vs.toArray }) (hi:IntsAre vs ns) (hl:ns.length <= sizeLine) (hr:Room k callerA)
  (F:∀ base:Heap,K.In base->base.Ns mainGlobals mg->t8 P w K mg base CX k fa fd [x] sp) (hbind:∀ (s:Shared) (u:Value),BindsTo s fd ⟨[u],[]⟩ [(x,u)])
  (hsp:∀ H:Hp,b8z H->SqL K H a (ns.map V.int)->sp [.ref a] H (fun v _=>v = .bl true) fun _ _ _=>False)
  (hCX:∀ H e s',CX [] H s₁ (fun _ _ _=>False) e s'->False) :
  codeAny (model P w) callerA (.call (.ref fa) ⟨[.ref a],[]⟩) (fun r s'=>r = .ok (.ret (.bool true))/\OldK s₁.heap s'.heap/\s'.os=s₁.os/\AllBare s'.gens) s₁:=by
 have rv:=a0n hi;have lenV:=hi.length
 have core:∀ H:Hp,b8z H->SqL K H a (ns.map V.int)->HOk P w H s₁.heap->(∀ b,H b ≠ none->b=a)->(H a ≠ none->K.lookup a=none) ->
   codeAny (model P w) callerA (.call (.ref fa) ⟨[.ref a],[]⟩) (fun r s'=>r = .ok (.ret (.bool true))/\OldK s₁.heap s'.heap/\s'.os=s₁.os/\AllBare s'.gens) s₁:=by
  intro H hO hS hok hA hK;have base_of:∀ {b:Addr} {o:Obj},s₁.heap.get? b=some o->H b=none->(a0w s₁.heap H).get? b=some o:=fun e n=>a5A e n
  have noA:∀ {b:Addr} {o:Obj} {es:Array DictEntry} {ep:Nat},s₁.heap.get? b=some o->o.data = .dict es ep->H b=none:=fun {b o es ep} e d=>by
   cases q:H b with
   |none=>rfl
   |some u =>
    have e':b=a:=hA b (by rw [q];simp);subst e';rw [ha] at e;cases e;have d':Data.seq vs.toArray _=Data.dict es ep:=d
    cases d'
  have nsK:∀ {b:Addr} {m:Str->Option Value},s₁.heap.Ns b m->(a0w s₁.heap H).Ns b m:=fun {b m} ⟨o,es,ep,e,d,r⟩=>⟨o,es,ep,base_of e (noA e d),d,r⟩
  have hKb:K.In (a0w s₁.heap H):=fun b o e=>base_of (KX b o e) (by
   cases q:H b with
   |none=>rfl
   |some u =>
    have e':b=a:=hA b (by rw [q];simp);subst e';rw [hK (by rw [q];simp)] at e;cases e)
  have hM:Mod K mg (a0w s₁.heap H):=⟨hKb,nsK hns,⟨mb,nsK hb,hbb⟩,let ⟨mc,h1,h2⟩:=hlim;⟨mc,nsK h1,h2⟩⟩
  have e0:b1k P w K mg (a0w s₁.heap H) callerA [] s₁ H:=⟨rfl,hM,fun b o e=>b1r e,Nat.le_of_eq (a4P _ _),trivial,fun b hb=>absurd (show b ∈ ([]:List Addr) from hb) (by simp),hok,.of_eq hg⟩
  refine codeAny_mono ((F _ hKb (nsK hns)).run callerA [] s₁ H ⟨[.ref a],[]⟩ [.ref a] [.ref a] _ _ hr e0 (hbind s₁ (.ref a)) (.cons rfl .nil) (hsp H hO hS)) fun r s' h=>?_
  cases r with
  |error e=>exact (hCX H e s' h).elim
  |ok fl =>
   cases fl with
   |next=>exact False.elim h
   |brk=>exact False.elim h
   |cont=>exact False.elim h
   |ret u =>
    obtain ⟨v,H',os,bare,un,hok',r',q⟩:=h;have q':v = .bl true:=q;subst q'
    obtain rfl:u=Value.bool true:=r'
    refine ⟨rfl,OldK.of_keep fun b o e=>?_,os,bare⟩
    cases q:H b with
    |none=>exact un.keep b o e q (by intro z;exact absurd (show b ∈ ([]:List Addr) from z) (by simp)) (by simp)
    |some u =>
     rcases hO b with z | ⟨ob,xs,z⟩
     ·rw [q] at z;cases z
     ·have z2:=un.frzs b ob _ z;obtain ⟨e1,_⟩:=hok b _ z;obtain ⟨e2,_⟩:=hok' b _ z2;rw [e] at e1;cases e1;exact e2
 cases hk:K.lookup a with
 |some o =>
  have e:=KX a o hk;rw [ha] at e;cases e;refine core (fun _=>none) (fun _=>.inl rfl) (.inr ⟨_,vs.toArray,_,hk,rfl,rfl,rfl,by rw [List.size_toArray,lenV];exact hl,by simpa using rv⟩) (fun b u z=>by have z':(none:Option HO)=some u:=z;cases z') (fun b z=>absurd rfl z) fun z=>absurd rfl z
 |none =>
  refine core (fun b=>if b=a then some (.frz { cls:=.type "list",data:=.seq vs.toArray } (.lst (ns.map V.int))) else none) (fun b=>?_) (.inl (.inr ⟨{ cls:=.type "list",data:=.seq vs.toArray },if_pos rfl⟩)) (fun b u z=>?_) (fun b z=>?_) fun _=>hk
  ·by_cases hb:b=a
   ·exact .inr ⟨_,_,if_pos hb⟩
   ·exact .inl (if_neg hb)
  ·by_cases hb:b=a
   ·have z':=(if_pos hb).symm.trans z
    cases z'
    subst hb;exact ⟨ha,by rw [List.length_map];exact hl,vs,_,rv,ha⟩
   ·have z':=(if_neg hb).symm.trans z
    cases z'
  ·by_cases hb:b=a
   ·exact hb
   ·exact absurd (if_neg hb) z
end L2
namespace L2
open PySem PySem.Spec PyProof.Rows
end L2
namespace L2
open PySem PySem.Spec PyProof.Rows
def E2(s:Stmt):Arguments:=match s with
 |.FunctionDef _ a _ _ _ _ _ _ _ _=>a
 |_=>{ posonlyargs:=[],args:=[],vararg:=none,kwonlyargs:=[],kw_defaults:=[],kwarg:=none,defaults:=[] }
def A9(s:Stmt):List Stmt:=match s with
 |.FunctionDef _ _ b _ _ _ _ _ _ _=>b
 |_=>[]
def g8(s:Stmt):Scope:=match s with
 |.FunctionDef _ _ _ _ _ _ sc _ _ _=>sc
 |_=>{ kind:=.function,names:=[],isGenerator:=false,isCoroutine:=false }
abbrev CX0:CXT:=fun _ _ _ _ _ _=>False
abbrev E0:XK:=fun _ _ _=>False
theorem b9d{X:Cx}:a2G CX0 X E0:=fun _ _ _ _ _ _ _ h=>h.elim
structure Fun(K:PySem.W.Frag)(x qual:Str)(st:Stmt)(f:Addr)(fd:FuncData):Prop where
 ex:∃ (oc:Value) (od:Option Addr) (dV kV doc pm:Value) (an:Option Addr) (cdv ct:Value) (osl:Array (Option Value)),
  fd=PySem.W.fnOf x qual (E2 st) (A9 st) (g8 st) dV kV doc pm an cdv ct/\K.lookup f=some ⟨oc,od,.func fd,osl⟩/\PySem.W.codeIn K cdv qual=true
 kp:PySem.W.keepIn K (.ref f)=true
section
variable {P:Program} {w:World} {K:PySem.W.Frag} {mg:Str->Option Value} {base:Heap}
theorem Fun.ok{x qual:Str}{st:Stmt}{f:Addr}{fd:FuncData}{N ps:List Str}{k:Nat}{sp:Sp}(F:Fun K x qual st f fd)(S:j1 N ps (g8 st))(len:∀ vs H Q E,sp vs H Q E->vs.length=ps.length)
  (hbody:∀ (cdv:Value) (A:Around) (outer:List Env) (s:Shared) (H:Hp) (vs:List V) (Q:VK) (E:XK),Room k (A.deeper (envOfC qual (g8 st) s.heap.objs.size f cdv))->sp vs H Q E ->
   ∃ t,PSs (a1c CX0 P w K mg base N qual (g8 st) f cdv A outer s H E).nox (A9 st) t/\t { nx:=fun _ H'=>Q .non H',rt:=Q } (start N vs) H):t8 P w K mg base CX0 (k + 1) f fd ps sp:=by
 obtain ⟨oc,od,dV,kV,doc,pm,an,cdv,ct,osl,rfl,lk,hcd⟩:=F.ex;refine b7y lk hcd S len fun A outer s H vs Q E hr hsp=>?_;obtain ⟨t,h,q⟩:=hbody cdv A outer s H vs Q E hr hsp;exact ⟨t,h.nox,q⟩
theorem a7o{x qual:Str}{st:Stmt}{f:Addr}{oc:Value}{od an:Option Addr}{osl:Array (Option Value)}{dV kV doc pm cdv ct:Value}(l:K.lookup f=some ⟨oc,od,.func (PySem.W.fnOf x qual (E2 st) (A9 st) (g8 st) dV kV doc pm an cdv ct),osl⟩)
  (c:PySem.W.codeIn K cdv qual=true) (k:PySem.W.keepIn K (.ref f)=true):Fun K x qual st f (PySem.W.fnOf x qual (E2 st) (A9 st) (g8 st) dV kV doc pm an cdv ct):=⟨⟨oc,od,dV,kV,doc,pm,an,cdv,ct,osl,rfl,l,c⟩,k⟩
end
section
variable {X:Cx}
end
theorem Y2{A B:Prop}(h:B):if false=true then A else B:=by
 rw [if_neg Bool.false_ne_true];exact h
theorem W7{A B:Prop}(h:A):if true=true then A else B:=by
 rw [if_pos rfl];exact h
def Same(H H':Hp):Prop:=∀ b o,H b=some o->H' b=some o
theorem Same.seq{K:PySem.W.Frag}{H H':Hp}{a:Addr}{xs:List V}(e:Same H H')(h:SqL K H a xs):SqL K H' a xs:=by
 rcases h with (h | ⟨o,h⟩) | h
 ·exact .inl (.inl (e _ _ h))
 ·exact .inl (.inr ⟨o,e _ _ h⟩)
 ·exact .inr h
end L2
namespace L2
open PySem PySem.Spec PyProof.Rows
theorem D7{env:Env}:∀ {names:List (Str×NameKind)} {x:Str},
  (names.map fun (n,k)=>if (k == NameKind.free && env.scope.kind == .function && env.kindOf n == some .cell) then (n,NameKind.cell) else (n,k)).lookup x
   = (names.lookup x).map fun k=>if (k == NameKind.free && env.scope.kind == .function && env.kindOf x == some .cell) then NameKind.cell else k
 |[],_=>rfl
 |(n,k) :: r,x=>by
  have ih:=@D7 env r x;show List.lookup x ((if (k == NameKind.free && env.scope.kind == .function && env.kindOf n == some .cell)=true then (n,NameKind.cell) else (n,k)) :: _)=_
  cases hx:x == n with
  |true =>
   have e:x=n:=beq_iff_eq.mp hx;subst e
   by_cases hc:(k == NameKind.free && env.scope.kind == .function && env.kindOf x == some .cell)=true
   ·rw [if_pos hc];simp only [List.lookup_cons,hx,Option.map_some];rw [if_pos hc]
   ·rw [if_neg hc];simp only [List.lookup_cons,hx,Option.map_some];rw [if_neg hc]
  |false =>
   by_cases hc:(k == NameKind.free && env.scope.kind == .function && env.kindOf n == some .cell)=true
   ·rw [if_pos hc];simp only [List.lookup_cons,hx];exact ih
   ·rw [if_neg hc];simp only [List.lookup_cons,hx];exact ih
theorem a0K{scope:Scope}{env:Env}{x:Str}(h:scope.names.lookup x=some .free):(relabel scope env).names.lookup x=some .cell\/(relabel scope env).names.lookup x=some .free:=by
 have e:(relabel scope env).names.lookup x=_:=D7 (env:=env) (names:=scope.names) (x:=x);rw [e,h,Option.map_some];split
 ·exact .inl rfl
 ·exact .inr rfl
theorem a0O{scope:Scope}{env:Env}{x:Str}(h:(relabel scope env).names.lookup x=some .cell\/(relabel scope env).names.lookup x=some .free):scope.names.lookup x=some .cell\/scope.names.lookup x=some .free:=by
 have e:(relabel scope env).names.lookup x=_:=D7 (env:=env) (names:=scope.names) (x:=x);rw [e] at h
 cases q:scope.names.lookup x with
 |none=>rw [q] at h;simp at h
 |some k =>
  rw [q,Option.map_some] at h
  by_cases hc:(k == NameKind.free && env.scope.kind == .function && env.kindOf x == some .cell)=true
  ·have:(k == NameKind.free)=true:=by
    rw [Bool.and_eq_true,Bool.and_eq_true] at hc;exact hc.1.1
   have:k = .free:=by simpa using this
   subst this;exact .inr rfl
  ·rw [if_neg hc] at h
   rcases h with h | h
   ·exact .inl h
   ·exact .inr h
def y1(cells:List (Str×Addr)):List (Str×NameKind)->List (Str×Addr)->List (Str×Addr)
 |[],acc=>acc
 |(n,k) :: r,acc=>if k == .free then y1 cells r ((n,(cells.lookup n).getD 0) :: acc) else y1 cells r acc
theorem M1{scope:Scope}{env:Env}(h:∀ n,(n,NameKind.free) ∈ scope.names->(env.cells.lookup n).isSome=true):closureFor scope env=pure (y1 env.cells scope.names []):=by
 have all:∀ (names:List (Str×NameKind)) (acc:List (Str×Addr)),(∀ n,(n,NameKind.free) ∈ names->(env.cells.lookup n).isSome=true) ->
   (forIn names acc fun x cs=>(if x.2 == NameKind.free then do let c <- cellOf env x.1;pure (ForInStep.yield ((x.1,c) :: cs)) else pure (ForInStep.yield cs):Sem (ForInStep (List (Str×Addr)))))=pure (y1 env.cells names acc):=by
  intro names
  induction names with
  |nil=>intro acc _;rfl
  |cons p r ih =>
   intro acc hp;obtain ⟨n,k⟩:=p;rw [List.forIn_cons]
   by_cases hk:(k == NameKind.free)=true
   ·have ek:k = .free:=by simpa using hk
    obtain ⟨c,hc⟩:=Option.isSome_iff_exists.mp (hp n (by rw [ek];exact List.mem_cons_self));have e1:cellOf env n=pure c:=by unfold cellOf;rw [hc]
    dsimp only;rw [if_pos hk,e1]
    have e2:y1 env.cells ((n,k) :: r) acc=y1 env.cells r ((n,c) :: acc):=by
     show (if k == .free then _ else _)=_;rw [if_pos hk,hc];rfl
    rw [e2,<- ih ((n,c) :: acc) fun m hm=>hp m (List.mem_cons_of_mem _ hm)];rfl
   ·dsimp only;rw [if_neg hk]
    have e2:y1 env.cells ((n,k) :: r) acc=y1 env.cells r acc:=by
     show (if k == .free then _ else _)=_;rw [if_neg hk]
    rw [e2,<- ih acc fun m hm=>hp m (List.mem_cons_of_mem _ hm)];rfl
 have q:=all scope.names [] h;unfold closureFor;show ((forIn scope.names [] fun x cs=>(if x.2 == NameKind.free then do let c <- cellOf env x.1;pure (ForInStep.yield ((x.1,c) :: cs)) else pure (ForInStep.yield cs):Sem (ForInStep (List (Str×Addr))))) >>= fun cs=>pure cs)=_;rw [q];rfl
theorem R0{cells:List (Str×Addr)}:∀ {names:List (Str×NameKind)} {acc:List (Str×Addr)} {n:Str} {c:Addr},(n,c) ∈ y1 cells names acc->(n,c) ∈ acc\/((n,NameKind.free) ∈ names/\(cells.lookup n).getD 0=c)
 |[],_,_,_,h=>.inl h
 |(m,k) :: r,acc,n,c,h=>by
  have h:(n,c) ∈ (if k == .free then y1 cells r ((m,(cells.lookup m).getD 0) :: acc) else y1 cells r acc):=h
  by_cases hk:(k == NameKind.free)=true
  ·rw [if_pos hk] at h;have ek:k = .free:=by simpa using hk
   rcases R0 h with q | ⟨q1,q2⟩
   ·rcases List.mem_cons.mp q with q | q
    ·cases q;exact .inr ⟨by rw [ek];exact List.mem_cons_self,rfl⟩
    ·exact .inl q
   ·exact .inr ⟨List.mem_cons_of_mem _ q1,q2⟩
  ·rw [if_neg hk] at h
   rcases R0 h with q | ⟨q1,q2⟩
   ·exact .inl q
   ·exact .inr ⟨List.mem_cons_of_mem _ q1,q2⟩
theorem Q8{cells:List (Str×Addr)}:∀ {names:List (Str×NameKind)} {acc:List (Str×Addr)} {n:Str},((n,NameKind.free) ∈ names\/∃ c,(n,c) ∈ acc)->∃ c,(n,c) ∈ y1 cells names acc
 |[],_,_,h=>h.elim (fun z=>nomatch z) id
 |(m,k) :: r,acc,n,h=>by
  show ∃ c,(n,c) ∈ (if k == .free then y1 cells r ((m,(cells.lookup m).getD 0) :: acc) else y1 cells r acc)
  by_cases hk:(k == NameKind.free)=true
  ·rw [if_pos hk];refine Q8 ?_
   rcases h with h | ⟨c,h⟩
   ·rcases List.mem_cons.mp h with h | h
    ·cases h;exact .inr ⟨_,List.mem_cons_self⟩
    ·exact .inl h
   ·exact .inr ⟨c,List.mem_cons_of_mem _ h⟩
  ·rw [if_neg hk];refine Q8 ?_
   rcases h with h | ⟨c,h⟩
   ·rcases List.mem_cons.mp h with h | h
    ·cases h;exact absurd rfl hk
    ·exact .inl h
   ·exact .inr ⟨c,h⟩
theorem E4{α:Type}{n:Str}{c:α}:∀ {l:List (Str×α)},(n,c) ∈ l->(∀ d,(n,d) ∈ l->d=c)->l.lookup n=some c
 |[],h,_=>nomatch h
 |(m,d) :: r,h,all=>by
  rw [List.lookup_cons]
  cases hb:n == m with
  |true =>
   have e:n=m:=beq_iff_eq.mp hb;subst e;rw [all d List.mem_cons_self]
  |false =>
   rcases List.mem_cons.mp h with q | q
   ·cases q;simp at hb
   ·exact E4 q fun d' hd=>all d' (List.mem_cons_of_mem _ hd)
theorem t6:∀ (names:List (Str×NameKind)) (n:Nat) (acc:List (Str×Addr)),cellsFrom n names acc=cellsFrom n names [] ++ acc
 |[],_,_=>rfl
 |(x,k) :: r,n,acc=>by
  unfold cellsFrom;split
  ·rw [t6 r (n + 1) ((x,n) :: acc),t6 r (n + 1) [(x,n)],List.append_assoc];rfl
  ·exact t6 r n acc
theorem D1:∀ {names:List (Str×NameKind)} {n:Nat} {x:Str} {c:Addr},(x,c) ∈ cellsFrom n names []->(x,NameKind.cell) ∈ names
 |[],_,_,_,h=>nomatch h
 |(y,k) :: r,n,x,c,h=>by
  unfold cellsFrom at h
  split at h
  ·rename_i hk;have ek:k = .cell:=by simpa using hk
   rw [t6] at h
   rcases List.mem_append.mp h with q | q
   ·exact List.mem_cons_of_mem _ (D1 q)
   ·cases List.mem_singleton.mp q
    rw [ek];exact List.mem_cons_self
  ·exact List.mem_cons_of_mem _ (D1 h)
theorem O0{α:Type}{n:Str}{c d:α}:∀ {l:List (Str×α)},(l.map (·.1)).Nodup->l.lookup n=some c->(n,d) ∈ l->d=c
 |[],_,_,h=>nomatch h
 |(m,e) :: r,hn,hl,hm=>by
  have hn:(m :: r.map (·.1)).Nodup:=hn;obtain ⟨h1,h2⟩:=List.nodup_cons.mp hn;rw [List.lookup_cons] at hl
  cases hb:n == m with
  |true =>
   rw [hb] at hl;have e1:n=m:=beq_iff_eq.mp hb;subst e1
   rcases List.mem_cons.mp hm with q | q
   ·cases q;cases hl;rfl
   ·exact absurd (List.mem_map.mpr ⟨(n,d),q,rfl⟩) h1
  |false =>
   rw [hb] at hl
   rcases List.mem_cons.mp hm with q | q
   ·cases q;simp at hb
   ·exact O0 h2 hl q
def o7(X:Cx)(N':List Str)(scope:Scope)(s:Shared)(H:Hp)(fp:List Addr):Cx :=
 { X with N:=N',s₀:=s,H₀:=H,env:=compEnvC scope (cellsFrom (s.heap.objs.size + 1) scope.names (y1 X.env.cells scope.names [])) s.heap.objs.size X.env,outer:=X.stack,ex:=fp,fn:=fun x=>scope.names.lookup x == some .cell,pn:=[],xe:=fun _ _=>False }
def J8(js:List (Option Nat))(σ:St):St:=js.map fun j=>match j with
 |some j=>(σ[j]?).getD none
 |none=>none
def frB(X:Cx)(scope:Scope):Bool:=scope.names.all fun p=>p.2 != .free || X.env.kindOf p.1 == some .cell || X.env.kindOf p.1 == some .free
def atB(X:Cx)(N':List Str)(js:List (Option Nat))(scope:Scope):Bool:=(js.zip N').all fun p=>match p.1 with
 |none=>true
 |some j=>X.N[j]? == some p.2 && scope.names.lookup p.2 == some .free
structure CompOk(X:Cx)(N':List Str)(js:List (Option Nat))(scope:Scope):Prop where
 kind:scope.kind = .function
 nd:(scope.names.map (·.1)).Nodup
 frb:frB X scope=true
 len:js.length=N'.length
 atb:atB X N' js scope=true
theorem CompOk.fr{X:Cx}{N':List Str}{js:List (Option Nat)}{scope:Scope}(C:CompOk X N' js scope):∀ n,(n,NameKind.free) ∈ scope.names->X.env.kindOf n=some .cell\/X.env.kindOf n=some .free:=fun n hn=>by
 have h:=List.all_eq_true.mp C.frb (n,.free) hn;simp only [Bool.or_eq_true,bne_iff_ne,ne_eq,not_true_eq_false,false_or,beq_iff_eq] at h;exact h
theorem CompOk.at_{X:Cx}{N':List Str}{js:List (Option Nat)}{scope:Scope}(C:CompOk X N' js scope):∀ (i j:Nat),js[i]?=some (some j)->∃ x,N'[i]?=some x/\X.N[j]?=some x/\scope.names.lookup x=some .free:=fun i j hj=>by
 have hi:i < js.length:=(List.getElem?_eq_some_iff.mp hj).1;have hi':i < N'.length:=by rw [<- C.len];exact hi
 have hz:(js.zip N')[i]?=some (some j,N'[i]):=by
  rw [List.getElem?_zip_eq_some];exact ⟨hj,by simp [hi']⟩
 have h:=List.all_eq_true.mp C.atb _ (List.mem_of_getElem? hz);simp only [Bool.and_eq_true,beq_iff_eq] at h;exact ⟨N'[i],by simp [hi'],h.1,h.2⟩
section
variable {X:Cx} {pins:List (Addr×Obj)} {σ:St} {H:Hp} {s:Shared} {N':List Str} {js:List (Option Nat)} {scope:Scope} {fp:List Addr}
theorem a2E(I:Inv X pins σ H s)(C:CompOk X N' js scope)(hf:∀ b ∈ fp,L7 X pins H b)(ho:∀ b ∈ fp,∃ o,s.heap.get? b=some o) :
  Inv (o7 X N' scope s H fp) [] (J8 js σ) H { s with heap:=pushCells (s.heap.push { cls:=.type "dict",data:=.dict #[] }) scope.names }:=by
 have keep:∀ b o,s.heap.get? b=some o->(pushCells (s.heap.push { cls:=.type "dict",data:=.dict #[] }) scope.names).get? b=some o:=fun b o e=>pushCells_keeps _ _ b o (Heap.get?_push_of_some _ e);have new:=cellsFrom_ok scope.names (s.heap.push { cls:=.type "dict",data:=.dict #[] }) (s.heap.objs.size + 1) [] ⟨fun _ _ hm=>(nomatch hm),List.Pairwise.nil⟩ (by rw [Heap.size_push];exact Nat.le_refl _);rw [Heap.size_push] at new
 have old:∀ n c,(n,c) ∈ y1 X.env.cells scope.names []->X.env.cells.lookup n=some c:=fun n c h=>by
  rcases R0 h with q | ⟨q1,q2⟩
  ·exact nomatch q
  ·obtain ⟨d,hd⟩:=I.ok.has n (C.fr n q1);rw [hd] at q2;rw [hd];exact congrArg some q2
 have oldlt:∀ n c,X.env.cells.lookup n=some c->c < s.heap.objs.size:=fun n c h=>by
  obtain ⟨v,q⟩:=I.cell n c h;exact q.lt
 have mem:∀ n c,(o7 X N' scope s H fp).env.cells.lookup n=some c->(n,c) ∈ cellsFrom (s.heap.objs.size + 1) scope.names []\/X.env.cells.lookup n=some c:=fun n c h=>by
  have h:(cellsFrom (s.heap.objs.size + 1) scope.names (y1 X.env.cells scope.names [])).lookup n=some c:=h;rw [t6] at h
  rcases List.mem_append.mp (PySem.mem_of_lookup h) with q | q
  ·exact .inl q
  ·exact .inr (old n c q)
 have lt:∀ b ∈ fp,b < s.heap.objs.size:=fun b hb=>let ⟨_,e⟩:=ho b hb;Heap.lt_size e
 have fre:∀ x c,scope.names.lookup x=some .free->X.env.cells.lookup x=some c->(o7 X N' scope s H fp).env.cells.lookup x=some c:=fun x c hx hc=>by
  show (cellsFrom (s.heap.objs.size + 1) scope.names (y1 X.env.cells scope.names [])).lookup x=some c;have hm:=PySem.mem_of_lookup hx;obtain ⟨d,hd⟩:=Q8 (cells:=X.env.cells) (acc:=[]) (.inl hm);have ed:∀ d',(x,d') ∈ y1 X.env.cells scope.names []->d'=c:=fun d' h'=>Option.some.inj ((old x d' h').symm.trans hc);refine E4 ?_ fun d' h'=>?_
  ·rw [t6,<- ed d hd];exact List.mem_append_right _ hd
  ·rw [t6] at h'
   rcases List.mem_append.mp h' with q | q
   ·exact absurd (O0 C.nd hx (D1 q)) (by decide)
   ·exact ed d' q
 refine ⟨⟨I.ok.mod,C.kind,I.ok.glob,I.ok.blt,Nat.le_refl _,fun x y c h1 h2=>?_,fun x hx=>?_,fun x c hx h=>?_,I.ok.hd,I.ok.frames,.inl rfl,fun b hb=>⟨Nat.ne_of_lt (lt b hb),fun x c h z=>?_⟩,fun b o e=>I.bs b o e,Nat.le_trans I.ok.bsz I.sz,fun b o e hb=>?_,fun b hb z=>?_,I.stack,I.stkFree⟩,
  rfl,I.bare,Un.kept keep,⟨_,(Heap.Ns.new s.heap (.type "dict")).keeps (pushCells_keeps _ _),fun i x v h1 h2 h3=>?_⟩,fun x c h=>?_,I.hok.fresh (Nat.le_refl _),fun x c h=>?_,fun p hp=>absurd (show p ∈ ([]:List (Addr×Obj)) from hp) (by simp),I.hok.kept keep,?_⟩
 ·rcases mem x c h1 with p1 | p1 <;> rcases mem y c h2 with p2 | p2
  ·exact name_of_addr new.apart p1 p2
  ·exact absurd (Nat.lt_of_lt_of_le (oldlt y c p2) (Nat.le_trans (Nat.le_succ _) (new.empty x c p1).2)) (Nat.lt_irrefl _)
  ·exact absurd (Nat.lt_of_lt_of_le (oldlt x c p1) (Nat.le_trans (Nat.le_succ _) (new.empty y c p2).2)) (Nat.lt_irrefl _)
  ·exact I.ok.inj x y c p1 p2
 ·rcases a0O (scope:=scope) (env:=X.env) hx with q | q
  ·exact Option.isSome_iff_exists.mp (PySem.W.cellsFrom_some scope.names _ _ (.inl q))
  ·obtain ⟨c,hc⟩:=I.ok.has x (C.fr x (PySem.mem_of_lookup q));exact ⟨c,fre x c q hc⟩
 ·have hx:scope.names.lookup x=some .cell:=by simpa [o7] using hx
  rcases mem x c h with q | q
  ·exact Nat.le_trans (Nat.le_succ _) (new.empty x c q).2
  ·
   have e:(cellsFrom (s.heap.objs.size + 1) scope.names (y1 X.env.cells scope.names [])).lookup x=some c:=h;rw [t6,List.lookup_append] at e;obtain ⟨d,hd⟩:=Option.isSome_iff_exists.mp (PySem.W.cellsFrom_some scope.names (s.heap.objs.size + 1) [] (.inl hx));rw [hd] at e;cases e;exact Nat.le_trans (Nat.le_succ _) (new.empty x _ (PySem.mem_of_lookup hd)).2
 ·rcases mem x c h with q | q
  ·have:=(new.empty x c q).2
   rw [z] at this;exact absurd (Nat.lt_of_lt_of_le (lt b hb) (Nat.le_trans (Nat.le_succ _) this)) (Nat.lt_irrefl _)
  ·exact (hf b hb).2.2.2.2.1 x c q z
 ·obtain ⟨_,_,_,h1,_⟩:=hf b hb
  rcases h1 with h1 | h1
  ·exact I.ok.noex b o e h1
  ·exact absurd (Nat.lt_of_lt_of_le (Heap.lt_size (I.ok.bs b o e).1) h1) (Nat.lt_irrefl _)
 ·obtain ⟨_,h1,h2,_⟩:=hf b hb;exact (List.mem_cons.mp (I.stkSub b z)).elim h1 h2
 ·
  obtain ⟨j,hj,hv⟩:∃ j,js[i]?=some (some j)/\(σ[j]?).getD none=some v:=by
   have h2:(js.map fun j=>match j with | some j=>(σ[j]?).getD none | none=>none)[i]?=some (some v):=h2;rw [List.getElem?_map] at h2
   cases e:js[i]? with
   |none=>rw [e] at h2;cases h2
   |some o =>
    rw [e] at h2
    cases o with
    |none=>cases h2
    |some j=>exact ⟨j,rfl,Option.some.inj h2⟩
  obtain ⟨y,e1,e2,e3⟩:=C.at_ i j hj;have exy:y=x:=Option.some.inj (e1.symm.trans (show N'[i]?=some x from h1));rw [exy] at e2 e3
  have hs:σ[j]?=some (some v):=by
   cases e:σ[j]? with
   |none=>rw [e] at hv;cases hv
   |some o=>rw [e] at hv;exact congrArg some hv
  have kx:=C.fr x (PySem.mem_of_lookup e3);obtain ⟨m,hn,hl⟩:=I.loc;obtain ⟨u,r,l⟩:=hl j x v e2 hs (kx.elim (fun z=>.inr (.inl z)) fun z=>.inr (.inr z));refine ⟨u,r,.inr ⟨a0K e3,?_⟩⟩
  rcases l with ⟨k,_⟩ | ⟨_,c,hc,hcell⟩
  ·rcases kx with z | z
   ·rw [z] at k;cases k
   ·rw [z] at k;cases k
  ·exact ⟨c,fre x c e3 hc,hcell.keeps keep⟩
 ·rcases mem x c h with q | q
  ·exact ⟨none,(new.empty x c q).1⟩
  ·obtain ⟨v,z⟩:=I.cell x c q;exact ⟨v,z.keeps keep⟩
 ·rcases mem x c h with q | q
  ·exact I.hok.fresh (Nat.le_trans (Nat.le_succ _) (new.empty x c q).2)
  ·exact I.freeC x c q
 ·show (J8 js σ).length=N'.length;unfold J8;rw [List.length_map,C.len]
theorem a7p{M:Model}{A:Around}{E:Value->Shared->Prop}{env:Env}{cl:List (Str×Addr)}{Q:Env->Shared->Prop}
  (h:Q (newEnv scope s.heap.objs.size env.globals (cellsFrom (s.heap.objs.size + 1) scope.names cl) env.qual none .none (some env) builtinsNs) { s with heap:=pushCells (s.heap.push { cls:=.type "dict",data:=.dict #[] }) scope.names }) :
  wpAny M A (newFunctionEnv scope env.globals cl [] env.qual none .none (some env)) Q E s:=by
 simp only [newFunctionEnv,Option.isSome_some,if_true];refine wpAny_bind (wpAny_alloc ?_);refine wpAny_bind (wpAny_layCells _ (fun name kind cells=>by cases hkc:kind == NameKind.cell <;> simp [hkc]) _ _ _ _ ?_);rw [show ({ s with heap:=s.heap.push { cls:=.type "dict",data:=.dict #[] } }:Shared).heap.objs.size=s.heap.objs.size + 1 from Heap.size_push ..];simp only [List.forIn_nil];exact wpAny_bind (wpAny_pure (wpAny_pure h))
def PF(X:Cx)(ifs:List Expr)(t:TT):Prop :=
 ∀ (pins:List (Addr×Obj)) (s:Shared) (σ:St) (H:Hp) (Q:Bool->Hp->Prop),Inv X pins σ H s->t σ H Q ->
  wpAny (model X.prog X.w) X.A (forIn ifs true fun c r=>if r=true then do let ok <- isTrue c X.env (eval c X.env);pure (ForInStep.yield ok) else pure (ForInStep.yield r)) (TP X pins σ Q) X.xe s
def b7x:TT:=fun _ H Q=>Q true H
theorem b3F:PF X [] b7x:=fun _ _ _ H _ I h=>wpAny_tests_nil ⟨H,I,h⟩
theorem b6b{c:Expr}{t:TT}(h:PT X c t):PF X [c] t:=fun pins s σ H Q I q=>wpAny_tests_one (h pins s σ H Q I q)
theorem a0B{prog:Program}{w:World}{A:Around}{R:Result->Shared->Prop}{s:Shared}{elt target iter:Expr}{ifs:List Expr}{scope:Scope}{pos:Pos}{it acc:Value}{env:Env}(I:Nat->Shared->Prop)
  (turn:∀ n s,I n s->wpAny (model prog w) A (pyNext it) (fun r s₁=>match r with
   |none=>R (.ok .next) s₁
   |some v=>wpAny (model prog w) A (letOwnedTupleGo target it v) (fun _ s₀=>wpAny (model prog w) A (assign target env v) (fun _ s₂ =>
     wpAny (model prog w) A (forIn ifs true fun c r=>if r=true then do let ok <- isTrue c env (eval c env);pure (ForInStep.yield ok) else pure (ForInStep.yield r)) (fun ok s₃ =>
      if ok=true then wpAny (model prog w) A (eval elt env) (fun x s₄ =>
       wpAny (model prog w) A (call (.builtin "list.append") [acc,x]) (fun _ s₅=>∃ m,m < n/\I m s₅) (notedBy (model prog w) A env fun e s'=>R (.error e) s') s₄) (notedBy (model prog w) A env fun e s'=>R (.error e) s') s₃
      else ∃ m,m < n/\I m s₃) (notedBy (model prog w) A env fun e s'=>R (.error e) s') s₂) (notedBy (model prog w) A env fun e s'=>R (.error e) s') s₀) (notedBy (model prog w) A env fun e s'=>R (.error e) s') s₁) (notedBy (model prog w) A env fun e s'=>R (.error e) s') s)
  (n:Nat) (h:I n s):codeAny (model prog w) A (.compLoop (.ListComp elt [⟨target,iter,ifs,0⟩] scope pos) 0 it acc env) R s:=by
 refine codeAny_loop rfl I (fun n s hI=>?_) n h;show wpAny _ A ((compTurn (.ListComp elt [⟨target,iter,ifs,0⟩] scope pos) 0 it acc env).onRaise (fun x=>do noteFrame x env;theTreesLotGoes x)) _ _ s;refine wpAny_noted ?_;rw [compTurn_list];refine wpAny_bind (wpAny_standAt (wpAny_bind (wpAny_mono (turn n s hI) (fun r s₁ h₁=>?_) fun _ _ h'=>h')))
 cases r with
 |none=>exact wpAny_pure h₁
 |some v =>
  refine wpAny_bind (wpAny_mono h₁ (fun _ s₀ h₀=>?_) fun _ _ h'=>h');refine wpAny_bind (wpAny_mono h₀ (fun _ s₂ h₂=>wpAny_bind (wpAny_mono h₂ (fun ok s₃ h₃=>?_) fun _ _ h'=>h')) fun _ _ h'=>h')
  cases ok with
  |false=>exact wpAny_pure ⟨rfl,h₃⟩
  |true =>
   exact wpAny_bind (wpAny_bind (wpAny_mono h₃ (fun x s₄ h₄=>wpAny_bind (wpAny_mono h₄ (fun _ s₅ h₅=>wpAny_pure (wpAny_pure ⟨rfl,h₅⟩)) fun _ _ h'=>h')) fun _ _ h'=>h'))
def a5v(J:It)(g:TG)(tf:TT)(te:TE)(D:Addr)(σ0:St)(H1:Hp)(Q:Hp->Prop):Prop :=
 ∃ W:Nat->Nat->St->Hp->Prop,(∃ m,W 0 m σ0 (upd H1 D (.lst [])))/\∀ i m σ H,W i m σ H ->
  (J.stop i H/\Q H)\/(J.go i H/\∀ x H2,J.yld i H x H2->g x σ H2 fun σ2 H3=>tf σ2 H3 fun b H4 =>
   if b=true then te σ2 H4 fun y H5=>∃ zs,H5 D=some (.lst zs)/\zs.length < sizeLine/\∃ m',m' < m/\W (i + 1) m' σ2 (upd H5 D (.lst (zs ++ [y])))
   else ∃ m',m' < m/\W (i + 1) m' σ2 H4)
def a7S(js:List (Option Nat))(wi:TI)(g:Shared->Hp->List Addr->TG)(tf:Shared->Hp->List Addr->TT)(te:Shared->Hp->List Addr->TE):TE:=fun σ H Q=>wi σ H fun J H1=>∀ (D:Addr),H1 D=none->∀ (s0:Shared) (H0:Hp) (fp:List Addr),a5v J (g s0 H0 fp) (tf s0 H0 fp) (te s0 H0 fp) D (J8 js σ) H1 fun H'=>Q (.ref D) H'
theorem a1U{tg iter elt:Expr}{ifs:List Expr}{pos:Pos}{J:It}{it:Addr}{tn:Nat->Heap->Prop}{g:Shared->Hp->TG}{tf:Shared->Hp->TT}{te:Shared->Hp->TE}{E:Value->Shared->Prop}{RR:Value->Addr->Result->Shared->Prop}{Q:Addr->Hp->Prop}
  (hc:X.calm=true) (C:CompOk X N' js scope) (I:Inv X pins σ H s) (T:a1g X.prog X.w X.K tg J fp it tn) (st:tn 0 s.heap) (hf:∀ b ∈ fp,L7 X pins H b)
  (body:∀ (s0:Shared) (H0:Hp),PG (o7 X N' scope s0 H0 fp) tg (g s0 H0)/\PF (o7 X N' scope s0 H0 fp) ifs (tf s0 H0)/\PE (o7 X N' scope s0 H0 fp) elt (te s0 H0))
  (h:∀ D,H D=none->∀ (s0:Shared) (H0:Hp),a5v J (g s0 H0) (tf s0 H0) (te s0 H0) D (J8 js σ) H (Q D))
  (hRR:∀ (D C:Addr) (H':Hp) (s':Shared) (m:Str->Option Value),s'.heap.Ns C m->s.heap.objs.size <= C->(∀ p ∈ X.pn ++ pins,p.1 ≠ C)->H' C=none->C ≠ X.env.locals->(∀ x c,X.env.cells.lookup x=some c->c ≠ C)->(X.s₀.heap.objs.size <= C)->Inv X pins σ H' s'->Q D H'->RR (.ref D) C (.ok .next) s') :
  wpAny (model X.prog X.w) X.A (newList []) (fun acc s₃=>wpAny (model X.prog X.w) X.A (newFunctionEnv scope X.env.globals (y1 X.env.cells scope.names []) [] X.env.qual none .none (some X.env)) (fun cenv s₄ =>
   codeAny (model X.prog X.w) X.A (.compStart (.ListComp elt [⟨tg,iter,ifs,0⟩] scope pos) 0 (.ref it) acc { cenv with scope:=relabel scope X.env }) (RR acc cenv.locals) s₄) E s₃) E s:=by
 have hfr:H s.heap.objs.size=none:=I.hok.fresh (Nat.le_refl _)
 have I1:Inv X pins σ (upd H s.heap.objs.size (.lst [])) { s with heap:=s.heap.push { cls:=.type "list",dict:=none,data:=.seq ([]:List Value).toArray } } :=
  I.laid (t':=s.toks) (fun b u e=>Heap.get?_push_of_some _ e) (Nat.le_refl _) ⟨Nat.zero_le _,[],_,.nil,Heap.get?_push_size _ rfl⟩
 refine wpAny_newObj_type (a7p ?_);have st1:tn 0 (s.heap.push { cls:=.type "list",dict:=none,data:=.seq ([]:List Value).toArray }):=T.keep _ _ _ st fun b hb o e=>Heap.get?_push_of_some _ e;have lt:∀ b ∈ fp,b < s.heap.objs.size:=fun b hb=>let ⟨_,e,_⟩:=T.obj _ _ st b hb;Heap.lt_size e
 have hf1:∀ b ∈ fp,L7 X pins (upd H s.heap.objs.size (.lst [])) b:=fun b hb=>⟨by rw [p5 (Nat.ne_of_lt (lt b hb))];exact (hf b hb).1,(hf b hb).2⟩
 have I2:=a2E (fp:=fp) I1 C hf1 (fun b hb=>let ⟨o,e,_⟩:=T.obj _ _ st1 b hb;⟨o,e⟩);have st2:tn 0 (pushCells ((s.heap.push { cls:=.type "list",dict:=none,data:=.seq ([]:List Value).toArray }).push { cls:=.type "dict",data:=.dict #[] }) scope.names):=T.keep _ _ _ st1 fun b hb o e=>pushCells_keeps _ _ b o (Heap.get?_push_of_some _ e);obtain ⟨W,⟨m0,w0⟩,turn⟩:=h _ hfr { s with heap:=s.heap.push { cls:=.type "list",dict:=none,data:=.seq ([]:List Value).toArray } } (upd H s.heap.objs.size (.lst []));obtain ⟨bg,bf,be⟩:=body { s with heap:=s.heap.push { cls:=.type "list",dict:=none,data:=.seq ([]:List Value).toArray } } (upd H s.heap.objs.size (.lst []));generalize hs1:({ s with heap:=s.heap.push { cls:=.type "list",dict:=none,data:=.seq ([]:List Value).toArray } }:Shared)=s1 at I1 I2 st2 bg bf be turn ⊢;have es1:s1.heap=s.heap.push { cls:=.type "list",dict:=none,data:=.seq ([]:List Value).toArray }:=by rw [<- hs1]
 have sz1:s1.heap.objs.size=s.heap.objs.size + 1:=by rw [es1,Heap.size_push]
 rw [<- es1] at st2
 have stat:∀ {H':Hp},(∀ b ∈ fp,H' b=none)->∀ b ∈ fp,L7 (o7 X N' scope s1 (upd H s.heap.objs.size (.lst [])) fp) [] H' b:=fun hn b hb=>by
  refine ⟨hn b hb,(I2.ok.exf b hb).1,?_,.inl hb,(I2.ok.exf b hb).2,fun p hp=>absurd (show p ∈ ([]:List (Addr×Obj)) from hp) (by simp)⟩;exact I2.ok.exfs b hb
 have outE:∀ {α:Type} {t:Sem α} {QQ:α->Shared->Prop} {E':Value->Shared->Prop} {s':Shared},wpAny (model X.prog X.w) X.A t QQ (fun _ _=>False) s'->wpAny (model X.prog X.w) X.A t QQ E' s':=fun q=>wpAny_mono q (fun _ _ z=>z) fun _ _ z=>z.elim
 have loop:∀ s2:Shared,s2={ s1 with heap:=pushCells (s1.heap.push { cls:=.type "dict",data:=.dict #[] }) scope.names } ->
   codeAny (model X.prog X.w) X.A (.compLoop (.ListComp elt [⟨tg,iter,ifs,0⟩] scope pos) 0 (.ref it) (.ref s.heap.objs.size) (o7 X N' scope s1 (upd H s.heap.objs.size (.lst [])) fp).env) (RR (.ref s.heap.objs.size) s1.heap.objs.size) s2:=by
  rintro s2 rfl
  refine a0B (fun n s'=>∃ i σ' H',Inv (o7 X N' scope s1 (upd H s.heap.objs.size (.lst [])) fp) [] σ' H' s'/\tn i s'.heap/\(∀ b ∈ fp,H' b=none)/\W i n σ' H') ?_ m0 ⟨0,_,_,I2,st2,fun b hb=>(hf1 b hb).1,w0⟩
  rintro n s3 ⟨i,σ3,H3,I3,st3,fr3,w3⟩
  rcases turn i n σ3 H3 w3 with ⟨stop,q⟩ | ⟨go,step⟩
  ·refine outE (thn (T.done (o7 X N' scope s1 (upd H s.heap.objs.size (.lst [])) fp) rfl rfl rfl hc i [] s3 σ3 H3 (fun _ _=>False) I3 (stat fr3) st3 stop) fun r s4 zz0=>?_);obtain ⟨hr,I4⟩:=zz0;subst hr;have u4:Un (frs X.stack) fp (upd H s.heap.objs.size (.lst [])) H3 s1.heap s4.heap:=I4.base
   have IX:Inv X pins σ H3 s4:=I1.call' I4.os u4 I4.hok I4.bare fun b hb=>by
    obtain ⟨_,f1,_,f3,f4,f5⟩:=hf1 b hb;exact ⟨f3,f1,f4,f5⟩
   obtain ⟨m,hn,_⟩:=I4.loc;have cle:s.heap.objs.size <= s1.heap.objs.size:=by rw [sz1];exact Nat.le_succ _
   have clt:∀ b,b < s1.heap.objs.size->b ≠ s1.heap.objs.size:=fun b hb=>Nat.ne_of_lt hb;refine hRR _ s1.heap.objs.size H3 s4 m hn cle (fun p hp=>clt _ (Heap.lt_size (I1.pin p hp).1)) I4.free (Ne.symm (clt _ I1.lt)) (fun x c e=>?_) (Nat.le_trans I.sz cle) IX q;obtain ⟨v,z⟩:=I1.cell x c e;exact clt _ z.lt
  ·refine outE (thn (T.item (o7 X N' scope s1 (upd H s.heap.objs.size (.lst [])) fp) rfl rfl rfl hc i [] s3 σ3 H3 (fun _ _=>False) I3 (stat fr3) st3 go) fun r s4 zz0=>?_);obtain ⟨u,hr,h4⟩:=zz0;subst hr;refine outE (thn h4 fun _ s5 zz0=>?_);obtain ⟨x,H5,I5,r5,y5,st5,fr5⟩:=zz0;have I5':=I5.pinned (stat fr5) (T.obj _ _ st5);refine outE (thn (bg _ s5 σ3 H5 x u _ I5' r5 (step x H5 y5)) fun _ s6 zz0=>?_);obtain ⟨σ6,H6,I6,q6⟩:=zz0;refine outE (thn (bf _ s6 σ6 H6 _ I6 q6) fun ok s7 zz0=>?_);obtain ⟨H7,I7,q7⟩:=zz0
   have again:∀ {s8:Shared} {σ8:St} {H8:Hp} {m':Nat},Inv (o7 X N' scope s1 (upd H s.heap.objs.size (.lst [])) fp) ([] ++ S0 fp s5.heap) σ8 H8 s8->m' < n->W (i + 1) m' σ8 H8 ->
     ∃ m,m < n/\∃ i σ' H',Inv (o7 X N' scope s1 (upd H s.heap.objs.size (.lst [])) fp) [] σ' H' s8/\tn i s8.heap/\(∀ b ∈ fp,H' b=none)/\W i m σ' H':=fun {s8 σ8 H8 m'} I8 hm w8=>by
    refine ⟨m',hm,i + 1,σ8,H8,I8.unpinned,T.keep _ _ _ st5 fun b hb o e=>(I8.pin (b,o) (List.mem_append_right _ (List.mem_append_right _ (G8 hb e)))).1,fun b hb=>?_,w8⟩;obtain ⟨o,e,d⟩:=T.obj _ _ st5 b hb;exact (I8.pin (b,o) (List.mem_append_right _ (List.mem_append_right _ (G8 hb e)))).2.1
   cases ok with
   |false =>
    rw [if_neg Bool.false_ne_true] at q7 ⊢;obtain ⟨m',hm,w8⟩:=q7;exact again I7 hm w8
   |true =>
    rw [if_pos rfl] at q7 ⊢;refine outE (thn (be _ s7 σ6 H7 _ I7 q7) fun y s8 zz0=>?_);obtain ⟨v,H8,I8,r8,zs,hz,hlen,m',hm,w8⟩:=zz0;obtain ⟨hzl,its,k,rv,e8⟩:=I8.hok _ _ hz;refine outE (PyProof.Rows.append_at (hsz:=by rw [List.size_toArray,<- rv.length];exact hzl) e8 fun h9 sb e9=>?_);rw [List.push_toArray] at e9
    have I9:Inv (o7 X N' scope s1 (upd H s.heap.objs.size (.lst [])) fp) ([] ++ S0 fp s5.heap) σ6 (upd H8 s.heap.objs.size (.lst (zs ++ [v]))) { s8 with heap:=h9 } :=
     I8.write (t':=s8.toks) (by rw [hz];trivial) (.inl rfl) (fun b o hb e=>(sb.2 b hb).trans e) ⟨_,e9⟩ ⟨by rw [List.length_append,List.length_singleton];exact hlen,its ++ [y],k + 1,rv.append (.cons r8 .nil),e9⟩
    exact again I9 hm w8
 show codeAny (model X.prog X.w) X.A (.compStart (.ListComp elt [⟨tg,iter,ifs,0⟩] scope pos) 0 (.ref it) (.ref s.heap.objs.size) (o7 X N' scope s1 (upd H s.heap.objs.size (.lst [])) fp).env) (RR (.ref s.heap.objs.size) s1.heap.objs.size) { s1 with heap:=pushCells (s1.heap.push { cls:=.type "dict",data:=.dict #[] }) scope.names };exact codeAny_compStart_list (loop _ rfl) (T.self X.A 0 _ _ _ st2 (loop _ rfl))
theorem B9{α:Type}{n:Str}{c:α}:∀ {l:List (Str×α)},(l.map (·.1)).Nodup->(n,c) ∈ l->l.lookup n=some c
 |[],_,h=>nomatch h
 |(m,e) :: r,hn,hm=>by
  have hn:(m :: r.map (·.1)).Nodup:=hn;obtain ⟨h1,h2⟩:=List.nodup_cons.mp hn;rw [List.lookup_cons]
  rcases List.mem_cons.mp hm with q | q
  ·cases q;simp
  ·have hne:(n == m)=false:=by
    cases hb:n == m with
    |false=>rfl
    |true=>exact absurd (List.mem_map.mpr ⟨(n,c),q,beq_iff_eq.mp hb⟩) h1
   rw [hne];exact B9 h2 q
variable {tg iter elt:Expr} {ifs:List Expr} {pos:Pos} {wi:TI} {g:Shared->Hp->List Addr->TG} {tf:Shared->Hp->List Addr->TT} {te:Shared->Hp->List Addr->TE}
theorem b1j(hc:X.calm=true)(C:CompOk X N' js scope)(hi:PI X tg iter wi)
  (body:∀ (s0:Shared) (H0:Hp) (fp:List Addr),PG (o7 X N' scope s0 H0 fp) tg (g s0 H0 fp)/\PF (o7 X N' scope s0 H0 fp) ifs (tf s0 H0 fp)/\PE (o7 X N' scope s0 H0 fp) elt (te s0 H0 fp))
  (hs:∀ x,foldedSetIterable iter X.env x=pure x:=by intro _;rfl):PE X (.ListComp elt [⟨tg,iter,ifs,0⟩] scope pos) (a7S js wi g tf te):=by
 intro pins s σ H Q I h;rw [eval_ListComp];have hcl:closureFor scope X.env=pure (y1 X.env.cells scope.names []):=M1 fun n hn=>Option.isSome_iff_exists.mpr (I.ok.has n (C.fr n hn));refine wpAny_comprehension_free (use:=none) rfl hs hcl C.kind (fun x hx hl=>B9 C.nd (by rw [<- hl];exact hx)) (thn (hi pins s σ H _ I h) fun v s1 h1=>thn h1 fun itv s2 h2=>?_);obtain ⟨it,fp,tn,J,H2,e,I2,T,st2,f2,q⟩:=h2;subst e;refine a1U (RR:=fun acc C=>compPost (model X.prog X.w) X.A X.xe none (EP X pins σ Q) acc C) hc C I2 T st2 f2 (g:=fun s0 H0=>g s0 H0 fp) (tf:=fun s0 H0=>tf s0 H0 fp) (te:=fun s0 H0=>te s0 H0 fp) (fun s0 H0=>body s0 H0 fp) (Q:=fun D H'=>Q (.ref D) H') (fun D hD s0 H0=>q D hD s0 H0 fp) ?_;intro D Ca H' s' m hn hle hp hC hL hcel hs0 I' q';exact ⟨m,hn,fun h' hs'=>⟨.ref D,H',I'.turned (t':=s'.toks) (it:=Ca) (fun b o hb e=>(hs'.2 b hb).trans e) hC hL (.inr hs0) hcel hp,rfl,q'⟩⟩
theorem a2R{i:Nat}{x:Str}{px cpos:Pos}(hc:X.calm=true)(C:CompOk X N' js scope)(hi:PI X tg iter wi)
  (body:∀ (s0:Shared) (H0:Hp) (fp:List Addr),PG (o7 X N' scope s0 H0 fp) tg (g s0 H0 fp)/\PF (o7 X N' scope s0 H0 fp) ifs (tf s0 H0 fp)/\PE (o7 X N' scope s0 H0 fp) elt (te s0 H0 fp))
  (hN:X.N.Nodup) (hix:X.N[i]?=some x) (hx:Loc X.env.scope x)
  (hsw:swapsWith (.ListComp elt [⟨tg,iter,ifs,0⟩] scope cpos) (some (.Name x px)) pos.line X.env=pure true:=by rfl) (hf:X.fn x=true\/X.env.scope.names.lookup x=some .local:=by trivial)
  (hs:∀ x,foldedSetIterable iter X.env x=pure x:=by intro _;rfl):PS X (.Assign [.Name x px] (.ListComp elt [⟨tg,iter,ifs,0⟩] scope cpos) pos) (a7f (a7S js wi g tf te) (a0k i)):=by
 intro pins s σ H D0 I h;rw [exec_Assign_Name_used _ _ _ _ hsw];refine wpAny_bind (wpAny_standAt (wpAny_bind ?_));show wpAny _ X.A (do let _ <- comprehension (.ListComp elt [⟨tg,iter,ifs,0⟩] scope cpos) scope X.env _ (newList []) false (eval iter X.env) (some (assign (.Name x px) X.env))) _ _ s;have hcl:closureFor scope X.env=pure (y1 X.env.cells scope.names []):=M1 fun n hn=>Option.isSome_iff_exists.mpr (I.ok.has n (C.fr n hn))
 refine wpAny_bind (wpAny_mono (wpAny_comprehension_free (use:=some (assign (.Name x px) X.env)) (Q:=fun _ s'=>SP X pins D0 .next s') rfl hs hcl C.kind (fun x hx hl=>B9 C.nd (by rw [<- hl];exact hx)) (thn (hi pins s σ H _ I h) fun v s1 h1=>thn h1 fun itv s2 h2=>?_))
  (fun _ s' hq=>wpAny_pure (wpAny_pure hq)) fun _ _ e=>e)
 obtain ⟨it,fp,tn,J,H2,e,I2,T,st2,f2,q⟩:=h2;subst e;refine a1U (RR:=fun acc C=>compPost (model X.prog X.w) X.A X.xe (some (assign (.Name x px) X.env)) (fun _ s'=>SP X pins D0 .next s') acc C) hc C I2 T st2 f2 (g:=fun s0 H0=>g s0 H0 fp) (tf:=fun s0 H0=>tf s0 H0 fp) (te:=fun s0 H0=>te s0 H0 fp) (fun s0 H0=>body s0 H0 fp) (Q:=fun D H'=>D0.nx (σ.set i (some (.ref D))) H') (fun D hD s0 H0=>q D hD s0 H0 fp) ?_;intro D Ca H' s' m hn hle hp hC hL hcel hs0 I' q';show wpAny _ X.A (assign (.Name x px) X.env (.ref D)) _ _ _;refine wpAny_assign_Name (a0p I' hN hix hx (v:=.ref D) rfl (fun s'' I'' hsb=>?_) hf);obtain ⟨a,sb,ha⟩:=hsb
 have nCa:Ca ≠ a:=by
  rcases ha with z | z
  ·rw [z];exact hL
  ·exact fun w=>hcel x a z w.symm
 exact ⟨m,hn.sameBut sb nCa,fun h' hs'=>⟨σ.set i (some (.ref D)),H',I''.turned (t':=s''.toks) (it:=Ca) (fun b o hb e=>(hs'.2 b hb).trans e) hC hL (.inr hs0) hcel hp,q'⟩⟩
end
end L2
namespace L2
open PySem PySem.Spec PyProof.Rows
section
variable {prog:Program} {w:World} {A:Around} {E:Value->Shared->Prop} {s:Shared}
theorem P4{it l:Addr}{i:Nat}{items:Array Value}{x:Value}{Q:Value->Shared->Prop}(hit:s.heap.IsTupleIter it l i)
  (hl:s.heap.IsTuple l items) (hx:items[i]?=some x)
  (hQ:∀ h',h'.IsTupleIter it l (i + 1)->Heap.SameBut it s.heap h'->Q x { s with heap:=h' }) :
  wpAny (model prog w) A (Builtin.SmallTypes.nextOf (.ref it)) Q E s:=by
 obtain ⟨o,ho,hc,hd⟩:=id hit;obtain ⟨ol,hol,_,nl,hdl⟩:=hl;unfold Builtin.SmallTypes.nextOf
 refine wpAny_bind (wpAny_callSpecial?_slot (name:=Str.ofString "__next__") hit.typeIs F.slot_tuple_iterator_next
  (wpAny_call_entry F.slot_tuple_iterator_next hit.typeIs F.entry_tuple_iterator_next ?_ (F.args_tuple_iterator_next_1 _)))
 show wpAny _ _ (field (.ref it) 0 >>= _) _ _ s;refine wpAny_bind (wpAny_field ho hd (x:=.ref l) rfl ?_);show wpAny _ _ (if (Value.ref l == Value.none)=true then _ else _) _ _ s;rw [if_neg (show ¬ ((Value.ref l == Value.none)=true) from Bool.false_ne_true)];show wpAny _ _ (field (.ref it) 1 >>= _) _ _ s;refine wpAny_bind (wpAny_field ho hd (x:=.int i 0) rfl ?_);show wpAny _ _ (seqItems? (.ref l) >>= _) _ _ s;refine wpAny_bind (wpAny_seqItems hol hdl ?_);simp only [Int.toNat_natCast,hx];refine wpAny_bind (wpAny_setField ho hd (by simp) (wpAny_pure ⟨x,rfl,wpAny_pure (hQ _ ?_ (Heap.SameBut.update ..))⟩))
 exact ⟨_,Heap.get?_update_self _ ho (Obj.isFreed_of_fields (Obj.data_mapFields hd _)),(Obj.cls_mapFields ..).trans hc,by
  rw [Obj.data_mapFields hd];simp [rawInt]⟩
theorem Q9{it l:Addr}{i:Nat}{items:Array Value}{Q:Value->Shared->Prop}(hh:A.handled=none)
  (hit:s.heap.IsTupleIter it l i) (hl:s.heap.IsTuple l items) (hx:items[i]?=none)
  (hE:∀ h' e,Heap.ExtBut it s.heap h'->(∃ o,h'.get? e=some o/\o.cls = .type "StopIteration")->E (.ref e) { s with heap:=h' }) :
  wpAny (model prog w) A (Builtin.SmallTypes.nextOf (.ref it)) Q E s:=by
 obtain ⟨o,ho,hc,hd⟩:=id hit;obtain ⟨ol,hol,_,nl,hdl⟩:=hl;unfold Builtin.SmallTypes.nextOf
 refine wpAny_bind (wpAny_callSpecial?_slot (name:=Str.ofString "__next__") hit.typeIs F.slot_tuple_iterator_next
  (wpAny_call_entry F.slot_tuple_iterator_next hit.typeIs F.entry_tuple_iterator_next ?_ (F.args_tuple_iterator_next_1 _)))
 show wpAny _ _ (field (.ref it) 0 >>= _) _ _ s;refine wpAny_bind (wpAny_field ho hd (x:=.ref l) rfl ?_);show wpAny _ _ (if (Value.ref l == Value.none)=true then _ else _) _ _ s;rw [if_neg (show ¬ ((Value.ref l == Value.none)=true) from Bool.false_ne_true)];show wpAny _ _ (field (.ref it) 1 >>= _) _ _ s;refine wpAny_bind (wpAny_field ho hd (x:=.int i 0) rfl ?_);show wpAny _ _ (seqItems? (.ref l) >>= _) _ _ s;refine wpAny_bind (wpAny_seqItems hol hdl ?_);simp only [Int.toNat_natCast,hx];refine wpAny_bind (wpAny_rule (wpAny_bind (wpAny_setField ho hd (by simp) ?_)));show wpAny _ _ (newExc (.type "StopIteration") [] >>= _) _ _ _;refine wpAny_bind ?_;simp only [newExc,newTuple];refine wpAny_bind (wpAny_newObj_type ?_ (by size_fits));refine wpAny_bind (m:=firstArgMember _ _) (wpAny_of_eq (a:=Value.none) (by first | rfl | (simp only [firstArgMember];rfl)) ?_);refine wpAny_newObj_type ?_ (by size_fits);simp only [raiseNew];refine wpAny_bind (wpAny_handled ?_)
 first | rw [show A.in1.handled=none from hh] | rw [hh]
 refine wpAny_bind (wpAny_pure (wpAny_throw ?_));exact hE _ _ (((Heap.SameBut.update ..).extBut.push _).push _) ⟨_,Heap.get?_push_size _ rfl,rfl⟩
end
theorem a1j{prog:Program}{w:World}{A:Around}(hh:A.handled=none)(it l:Addr)(hne:l ≠ it)(items:Array Value) :
  Draws prog w A it [it,l] items.size (fun i v=>items[i]?=some v) (fun i h=>h.IsTupleIter it l i/\h.IsTuple l items) where
 live:=fun _ _ st=>let ⟨o,ho,_⟩:=st.1;⟨o,ho⟩
 frame:=fun _ _ _ st hk=>⟨st.1.at fun o e=>hk it (by simp) o e,let ⟨o,ho,r⟩:=st.2;⟨o,hk l (by simp) o ho,r⟩⟩
 item:=fun i s Q E hi st hQ=>by
  refine P4 st.1 st.2 (x:=items[i]) (by simp [hi]) fun h' hit hs=>?_;exact hQ _ h' s.toks (by simp [hi]) ⟨hit,st.2.extBut hs.extBut hne⟩ hs
 done:=fun s Q E st hE=>Q9 hh st.1 st.2 (by simp) hE
theorem K0(l:Addr)(items:Array Value)(n:Nat)(dct:Option Addr)(sl:Array (Option Value)) :
  Meets (Builtin.«enumerate.__new__» ⟨[.type "enumerate",.ref l],[]⟩) (fun _ R s=>s.heap.get? l=some { cls:=.type "tuple",dict:=dct,data:=.seq items n,slots:=sl } /\
   R (.ok (.ret (.ref (s.heap.push { cls:=.type "tuple_iterator",data:=.fields #[.ref l,.int 0 0] }).objs.size)))
    { s with heap:=(s.heap.push { cls:=.type "tuple_iterator",data:=.fields #[.ref l,.int 0 0] }).push { cls:=.type "enumerate",data:=.fields #[.none,.bool false,.ref s.heap.objs.size,rawInt 0,.none,.none] } }) :=
 .of_wp fun prog w A R s h=>by
  obtain ⟨hp,g,d,tk,os⟩:=s;obtain ⟨hl,h⟩:=h;have hsub:=sub_enumerate;have hL:Heap.IsTuple (Shared.heap ⟨hp,g,d,tk,os⟩) l items:=⟨_,hl,rfl,n,rfl⟩
  wp_walk using PySem.AutoSeq1.wpAny_loadPart' hl
  refine wpAny_stack_any fun st=>wpAny_pure ?_;split
  ·rename_i c _ _ _ _ _
   cases (c == Value.type "enumerate")
   ·wp_walk using PySem.AutoSeq1.wpAny_loadPart' hl,wpAny_pyIter_tuple hL
    exact ⟨_,rfl,h⟩
   ·wp_walk using PySem.AutoSeq1.wpAny_loadPart' hl,wpAny_pyIter_tuple hL
    exact ⟨_,rfl,h⟩
  ·wp_walk using PySem.AutoSeq1.wpAny_loadPart' hl,wpAny_pyIter_tuple hL
   exact ⟨_,rfl,h⟩
theorem K1{prog:Program}{w:World}{A:Around}{E:Value->Shared->Prop}{s:Shared}{l:Addr}{items:Array Value}{Q:Value->Shared->Prop}(hL:s.heap.IsTuple l items)
  (h:∀ h',IsEnum h' (s.heap.objs.size + 1) s.heap.objs.size 0 .none->h'.IsTupleIter s.heap.objs.size l 0->h'.objs.size=s.heap.objs.size + 2 ->
   (∀ b o,s.heap.get? b=some o->h'.get? b=some o)->Q (.ref (s.heap.objs.size + 1)) { s with heap:=h' }) :
  wpAny (model prog w) A (call (.type "enumerate") [.ref l]) Q E s:=by
 obtain ⟨⟨c,dct,dt,sl⟩,hl,hc,n,hd⟩:=hL
 replace hc:c = .type "tuple":=hc
 replace hd:dt = .seq items n:=hd
 subst hc hd
 refine callType_new F.called_enumerate (by decide) (F.typeCall_enumerate_1 _) (F.newCall_enumerate_1 _) (fun obj=>F.args_object_init_2 obj _) F.entry_enumerate_new
  (K0 l items n dct sl) ⟨hl,?_⟩
 have hz:(s.heap.push { cls:=.type "tuple_iterator",data:=.fields #[.ref l,.int 0 0] }).objs.size=s.heap.objs.size + 1:=Heap.size_push ..;show _/\_;rw [hz]
 have he:IsEnum ((s.heap.push { cls:=.type "tuple_iterator",data:=.fields #[.ref l,.int 0 0] }).push
   { cls:=.type "enumerate",data:=.fields #[.none,.bool false,.ref s.heap.objs.size,rawInt 0,.none,.none] }) (s.heap.objs.size + 1) s.heap.objs.size 0 .none:=by
  have:=Heap.get?_push_size (s.heap.push { cls:=.type "tuple_iterator",data:=.fields #[.ref l,.int 0 0] })
   (o:={ cls:=.type "enumerate",data:=.fields #[.none,.bool false,.ref s.heap.objs.size,rawInt 0,.none,.none] }) rfl
  rw [hz] at this;exact this
 refine ⟨⟨_,he,rfl⟩,h _ he ⟨_,Heap.get?_push_of_some _ (Heap.get?_push_size _ rfl),rfl,rfl⟩ (by rw [Heap.size_push,hz]) fun b o x=>Heap.get?_push_of_some _ (Heap.get?_push_of_some _ x)⟩
section
variable {X:Cx} {pins:List (Addr×Obj)} {σ:St} {H:Hp} {s:Shared} {h':Heap}
theorem Inv.turned2{t':Nat}{e it:Addr}(I:Inv X pins σ H s)(k:∀ b o,b ≠ e->b ≠ it->s.heap.get? b=some o->h'.get? b=some o)(fe:L7 X pins H e)(fi:L7 X pins H it):Inv X pins σ H { s with heap:=h',toks:=t' }:=by
 have ne1:∀ b,b ∉ [e,it]->b ≠ e/\b ≠ it:=fun b hb=>⟨fun z=>hb (by simp [z]),fun z=>hb (by simp [z])⟩
 have nit:∀ b u,H b=some u->b ≠ e/\b ≠ it:=fun b u q=>⟨fun z=>(by rw [z,fe.1] at q;cases q),fun z=>(by rw [z,fi.1] at q;cases q)⟩
 refine I.step (g':=s.gens) (d':=s.drawn) (ch:=[e,it]) (fun b hb=>?_) (fun b o _ _ hc q _=>k b o (ne1 b hc).1 (ne1 b hc).2 q) (fun b o _ _ hc q _=>⟨o.slots,k b o (ne1 b hc).1 (ne1 b hc).2 q⟩) (fun _ _ _ _ n=>n)
  (fun b o hc q=>⟨o,k b o (ne1 b hc).1 (ne1 b hc).2 q⟩) (fun _ _ q=>q) (fun _ _ _ q=>q) (fun b ps q=>⟨#[],by rw [q];simp⟩) (fun m hm=>?_) (fun b u q=>?_) I.bare
 ·rcases List.mem_cons.mp hb with z | z
  ·subst z;exact ⟨fe.2.2.2.1,fe.2.1,fe.2.2.2.2.1,fe.2.2.2.2.2⟩
  ·have z:=List.mem_singleton.mp z;subst z;exact ⟨fi.2.2.2.1,fi.2.1,fi.2.2.2.2.1,fi.2.2.2.2.2⟩
 ·obtain ⟨o,es,ep,ho,r⟩:=hm;exact ⟨o,es,ep,k _ o (Ne.symm fe.2.1) (Ne.symm fi.2.1) ho,r⟩
 ·refine (I.hok b u q).stay (fun c v hc z=>?_) (fun _ z=>z) fun _ _ z=>z
  rcases hc with y | y
  ·rw [y];rw [y] at z;exact k b v (nit b u q).1 (nit b u q).2 z
  ·exact k c v (nit c _ y).1 (nit c _ y).2 z
end
structure O2(P:Program)(w:World)(K:PySem.W.Frag)(a it:Addr)(Sq:Hp->List V->Prop)(IsIt:Nat->Heap->Prop):Prop where
 at_:∀ i h h',IsIt i h->(∀ o,h.get? it=some o->h'.get? it=some o)->IsIt i h'
 live:∀ i h,IsIt i h->∃ o,h.get? it=some o/\∀ v,o.data ≠ .cell v
 drw:∀ (X:Cx),X.prog=P->X.w=w->X.K=K->X.calm=true->∀ (i:Nat) (pins:List (Addr×Obj)) (s:Shared) (σ:St) (H:Hp) (xs:List V),Inv X pins σ H s->IsIt i s.heap->Sq H xs ->
  ∃ its:List Value,Vals xs its/\(∃ oa,s.heap.get? a=some oa/\oa.cls ≠ .type "enumerate")/\∃ St:Nat->Heap->Prop,Draws P w X.A.in1 it [it,a] its.length (fun i v=>its[i]?=some v) St/\St i s.heap/\∀ j h',St j h'->IsIt j h'
 inj:∀ (X:Cx),X.prog=P->X.w=w->X.K=K->∀ (pins:List (Addr×Obj)) (s:Shared) (σ:St) (H:Hp) (xs ys:List V),Inv X pins σ H s->Sq H xs->Sq H ys->xs=ys
def Ite(Sq:Hp->List V->Prop):It :=
 ⟨fun i H=>∃ xs x,Sq H xs/\xs[i]?=some x,fun i H x H'=>∃ T v,x = .ref T/\H T=none/\H'=upd H T (.tup [.int (i:Nat),v])/\∀ xs,Sq H xs->xs[i]?=some v,fun i H=>∃ xs,Sq H xs/\xs.length=i⟩
theorem S8{A:Around}(h:A.handled=none):A.in1.handled=none:=h
theorem a1I{P:Program}{w:World}{K:PySem.W.Frag}(a it:Addr):O2 P w K a it (fun H xs=>SqL K H a xs) (fun i h=>h.IsListIter it a i) where
 at_:=fun i h h' st k=>st.at k
 live:=fun i h st=>by
  obtain ⟨o,e,c,d⟩:=st;exact ⟨o,e,fun v z=>by rw [d] at z;cases z⟩
 drw:=by
  intro X hP hw hK hc i pins s σ H xs I hit hq;subst hP hw hK;obtain ⟨its,rv,p,hz⟩:=I.list hq;obtain ⟨oa,e1,c1,r1⟩:=id p.isList
  have hne:a ≠ it:=fun z=>by
   obtain ⟨o,e,c,_⟩:=hit;rw [<- z,e1] at e;cases e;rw [c1] at c;injection c with c;exact absurd c (by decide)
  refine ⟨its,rv,⟨oa,e1,fun z=>(by rw [c1] at z;injection z with z;exact absurd z (by decide))⟩,(fun i h=>h.IsListIter it a i/\h.IsList a its.toArray),?_,⟨hit,p.isList⟩,fun j h' st=>st.1⟩;have D:=Draws.list (prog:=X.prog) (w:=X.w) (A:=X.A.in1) (S8 (I.ok.hd hc)) it a hne its.toArray
  simpa using D
 inj:=by
  intro X hP hw hK pins s σ H xs ys I h1 h2;subst hP hw hK;exact I.list_inj h1 h2
theorem b1W{P:Program}{w:World}{K:PySem.W.Frag}(a it:Addr):O2 P w K a it (fun H xs=>SqT K H a xs) (fun i h=>h.IsTupleIter it a i) where
 at_:=fun i h h' st k=>st.at k
 live:=fun i h st=>by
  obtain ⟨o,e,c,d⟩:=st;exact ⟨o,e,fun v z=>by rw [d] at z;cases z⟩
 drw:=by
  intro X hP hw hK hc i pins s σ H xs I hit hq;subst hP hw hK;obtain ⟨its,rv,p,hz⟩:=I.tuple hq;obtain ⟨oa,e1,c1,r1⟩:=id p
  have hne:a ≠ it:=fun z=>by
   obtain ⟨o,e,c,_⟩:=hit;rw [<- z,e1] at e;cases e;rw [c1] at c;injection c with c;exact absurd c (by decide)
  refine ⟨its,rv,⟨oa,e1,fun z=>(by rw [c1] at z;injection z with z;exact absurd z (by decide))⟩,(fun i h=>h.IsTupleIter it a i/\h.IsTuple a its.toArray),?_,⟨hit,p⟩,fun j h' st=>st.1⟩;have D:=a1j (prog:=X.prog) (w:=X.w) (A:=X.A.in1) (S8 (I.ok.hd hc)) it a hne its.toArray
  simpa using D
 inj:=by
  intro X hP hw hK pins s σ H xs ys I h1 h2;subst hP hw hK;exact I.tuple_inj h1 h2
theorem a4B{P:Program}{w:World}{K:PySem.W.Frag}{a it:Addr}{Sq:Hp->List V->Prop}{IsIt:Nat->Heap->Prop}(S:O2 P w K a it Sq IsIt)(e:Addr)(hei:e ≠ it){es:List Expr}{x1}{pos:Pos} :
  a1g P w K (.Tuple es x1 pos) (Ite Sq) [e,it] e (fun i h=>(∃ old,IsEnum h e it ((i:Nat):Int) old)/\IsIt i h) where
 mem:=by simp
 obj:=fun i h st b hb=>by
  obtain ⟨⟨old,he⟩,hit⟩:=st
  rcases List.mem_cons.mp hb with z | z
  ·subst z;exact ⟨_,he,fun v z=>by cases z⟩
  ·have z:=List.mem_singleton.mp z;subst z;exact S.live i h hit
 keep:=fun i h h' st k=>by
  obtain ⟨⟨old,he⟩,hit⟩:=st;exact ⟨⟨old,k e (by simp) _ he⟩,S.at_ i h h' hit fun o q=>k it (by simp) o q⟩
 item:=by
  intro X hP hw hK hc i pins s σ H E I hf st hg;obtain ⟨⟨old,he⟩,hit⟩:=st;obtain ⟨xs,x,hq,hx⟩:=hg;obtain ⟨its,rv,⟨oa,ea,ca⟩,St,D,st0,fromSt⟩:=S.drw X hP hw hK hc i pins s σ H xs I hit hq;obtain ⟨u,hu,ru⟩:=rv.get hx;have hlt:i < its.length:=(List.getElem?_eq_some_iff.mp hu).1
  have hef:e ∉ [it,a]:=fun z=>by
   rcases List.mem_cons.mp z with z | z
   ·exact hei z
   ·have z:=List.mem_singleton.mp z;have he':s.heap.get? e=some _:=he;rw [z,ea] at he';cases he';exact ca rfl
  refine wpAny_pyNext_enum_itemD D he st0 hlt hei hef fun y h1 tk hy heo hst1 htup hsz hk=>?_;have ey:y=u:=Option.some.inj (hy.symm.trans hu);subst ey;refine ⟨_,rfl,wpAny_letOwnedTupleGo_enum heo fun h2 he2 sb2=>?_⟩;have fe:=hf e (by simp);have fi:=hf it (by simp);have hT:H s.heap.objs.size=none:=I.hok.fresh (Nat.le_refl _)
  have Im:Inv X pins σ (upd H s.heap.objs.size (.tup [.int (i:Nat),x])) { s with heap:=s.heap.push { cls:=.type "tuple",data:=.seq #[.int i tk,y] } } :=
   I.laid (t':=s.toks) (fun b v q=>Heap.get?_push_of_some _ q) (Nat.le_refl _) ⟨by show 2 <= sizeLine;decide,[.int i tk,y],.cons ⟨tk,rfl⟩ (.cons ru .nil),⟨_,Heap.get?_push_size _ rfl,rfl,_,rfl⟩⟩
  have lt:∀ b o,s.heap.get? b=some o->b ≠ s.heap.objs.size:=fun b o q=>Nat.ne_of_lt (Heap.lt_size q);have ne:e ≠ s.heap.objs.size:=lt e _ he
  have ni:it ≠ s.heap.objs.size:=by
   obtain ⟨o,q,_⟩:=S.live i _ hit;exact lt it o q
  have up:∀ b,b ≠ s.heap.objs.size->(upd H s.heap.objs.size (.tup [.int (i:Nat),x])) b=H b:=fun b hb=>p5 hb;have fe':L7 X pins (upd H s.heap.objs.size (.tup [.int (i:Nat),x])) e:=⟨by rw [up e ne];exact fe.1,fe.2⟩
  have fi':L7 X pins (upd H s.heap.objs.size (.tup [.int (i:Nat),x])) it:=⟨by rw [up it ni];exact fi.1,fi.2⟩
  have I2:Inv X pins σ (upd H s.heap.objs.size (.tup [.int (i:Nat),x])) { s with heap:=h2,toks:=tk + 1 } :=
   Im.turned2 (t':=tk + 1) (h':=h2) (fun b o hbe hbi q=>by
    have q:(s.heap.push { cls:=.type "tuple",data:=.seq #[.int i tk,y] }).get? b=some o:=q;refine (sb2.2 b hbe).trans ?_
    rcases Heap.get?_push_cases q with ⟨hb,ho⟩ | q'
    ·subst hb;subst ho;exact htup
    ·exact hk b o hbe hbi q') fe' fi'
  refine ⟨.ref s.heap.objs.size,_,I2,rfl,⟨_,x,rfl,hT,rfl,fun ys hy=>by rw [S.inj X hP hw hK pins s σ H ys xs I hy hq];exact hx⟩,⟨⟨y,?_⟩,?_⟩,fun b hb=>?_⟩
  ·have ec:((i + 1:Nat):Int)=(i:Int) + 1:=by push_cast;rfl
   rw [ec];exact he2
  ·exact S.at_ _ _ _ (fromSt _ _ hst1) fun o q=>(sb2.2 it (Ne.symm hei)).trans q
  ·rcases List.mem_cons.mp hb with z | z
   ·subst z;exact fe'.1
   ·have z:=List.mem_singleton.mp z;subst z;exact fi'.1
 done:=by
  intro X hP hw hK hc i pins s σ H E I hf st hg;obtain ⟨⟨old,he⟩,hit⟩:=st;obtain ⟨xs,hq,hx⟩:=hg;obtain ⟨its,rv,⟨oa,ea,ca⟩,St,D,st0,fromSt⟩:=S.drw X hP hw hK hc i pins s σ H xs I hit hq;have hl:=rv.length;have ei:its.length=i:=by omega
  rw [<- ei] at st0;obtain ⟨f0,f1,f2,f3,f4,f5⟩:=hf it (by simp);exact wpAny_pyNext_enum_endD D he st0 fun h1 eb=>⟨rfl,I.turned (t':=s.toks) (fun b o hb q=>eb b o hb q) f0 f1 f3 f4 f5⟩
 self:=fun _ _ _ _ _ st h=>wpAny_pyIter_enum st.1.choose_spec h
section
variable {X:Cx}
theorem a0Y{pins:List (Addr×Obj)}{σ:St}{H:Hp}{s:Shared}{h':Heap}{a:Addr}{Sq:Hp->List V->Prop}{IsIt:Nat->Heap->Prop}{R:It->Hp->Prop}{tg:Expr}(htg:∃ es x1 pos,tg = .Tuple es x1 pos)(I:Inv X pins σ H s)(S:O2 X.prog X.w X.K a s.heap.objs.size Sq IsIt)
  (he:IsEnum h' (s.heap.objs.size + 1) s.heap.objs.size 0 .none) (hit:IsIt 0 h') (hk:∀ b o,s.heap.get? b=some o->h'.get? b=some o) (q:R (Ite Sq) H) {E:Value->Shared->Prop} :
  wpAny (model X.prog X.w) X.A (pyIter (.ref (s.heap.objs.size + 1))) (PIE X pins σ tg R) E { s with heap:=h' }:=by
 obtain ⟨es,x1,pos,rfl⟩:=htg;refine wpAny_pyIter_enum (s:={ s with heap:=h' }) he ?_;refine ⟨s.heap.objs.size + 1,[s.heap.objs.size + 1,s.heap.objs.size],_,_,H,rfl,I.kept (t':=s.toks) hk,a4B S (s.heap.objs.size + 1) (Nat.succ_ne_self _),⟨⟨_,he⟩,hit⟩,fun b hb=>?_,q⟩
 rcases List.mem_cons.mp hb with z | z
 ·subst z;exact I.fpOk (Nat.le_succ _) (I.hok.fresh (Nat.le_succ _))
 ·have z:=List.mem_singleton.mp z;subst z;exact I.fpOk (Nat.le_refl _) (I.hok.fresh (Nat.le_refl _))
end
end L2
namespace HT
open PySem PySem.Spec PyProof.Rows
section
variable {prog:Program} {w:World} {A:Around} {E:Value->Shared->Prop} {s:Shared}
theorem getItem_tuple_all{t sl:Addr}{items:Array Value}{vl vu:Value}{lo hi:Option Int}{Q:Value->Shared->Prop}(ht:IsTup s.heap t items)(hs:s.heap.IsSliceOf sl vl vu .none)(pl:IsPart vl lo)(pu:IsPart vu hi)
  (hw:sIx items.size 0 lo=0/\sIx items.size items.size hi=items.size) (h:Q (.ref t) s):wpAny (model prog w) A (getItem (.ref t) (.ref sl)) Q E s:=by
 obtain ⟨os,hos,hcs,hds⟩:=id hs;have hTs:s.TypeIs (.ref sl) "slice":=⟨os,hos,hcs⟩
 unfold getItem
 try with_reducible refine wpAny_holding ?_
 first | refine wpAny_bind (wpAny_pure ?_) | skip
 refine wpAny_bind (wpAny_sequenceKey ht.typeIs (by decide) ?_)
 refine wpAny_bind (wpAny_callSpecial?_slot (name:=Str.ofString "__getitem__") ht.typeIs PyProof.Rows.slot_tuple_getitem
  (wpAny_call_entry PyProof.Rows.slot_tuple_getitem ht.typeIs entry_tuple_getitem ?_ (args_tuple_getitem _ _)))
 show wpAny _ _ (Builtin.Tuple.tupleItemsOf (.ref t) >>= _) _ _ s;refine wpAny_bind (tupleItemsOf_ ht ?_);refine wpAny_bind (wpAny_typeOf hTs ?_);rw [if_pos (by decide)];refine wpAny_bind (G1 hs pl pu ?_)
 have hyes:(((sIx items.size 0 lo:Nat):Int) == 0 && (1:Int) == 1 && (sIx items.size items.size hi - sIx items.size 0 lo) == items.size)=true:=by
  rw [hw.1,hw.2];simp
 show wpAny _ _ (if (((sIx items.size 0 lo:Nat):Int) == 0 && (1:Int) == 1 && (sIx items.size items.size hi - sIx items.size 0 lo) == items.size)=true then _ else _) _ _ s;rw [if_pos hyes];refine wpAny_bind (m:=Builtin.Tuple.tupleIsExact _) ?_;unfold Builtin.Tuple.tupleIsExact;refine wpAny_bind (wpAny_typeOf ht.typeIs (wpAny_pure ?_));rw [if_pos (by decide)];exact wpAny_bind (wpAny_rule (wpAny_bind (wpAny_pure (wpAny_pure ⟨_,rfl,wpAny_pure h⟩))))
end
end HT
namespace L2
open PySem PySem.Spec PyProof.Rows
section
variable {X:Cx}
end
end L2
namespace L2
open PySem PySem.Spec PyProof.Rows
mutual
inductive Is(H:Hp):V->PyData->Prop
 |non:Is H .non .none
 |bl (b:Bool):Is H (.bl b) (.bool b)
 |int (i:Int):Is H (.int i) (.int i)
 |str (x:Str):Is H (.str x) (.str x)
 |lst {a:Addr} {xs:List V} {ds:List PyData}:H a=some (.lst xs)->Iss H xs ds->Is H (.ref a) (.list ds)
 |tup {a:Addr} {xs:List V} {ds:List PyData}:H a=some (.tup xs)->Iss H xs ds->Is H (.ref a) (.tuple ds)
inductive Iss(H:Hp):List V->List PyData->Prop
 |nil:Iss H [] []
 |cons {x:V} {d:PyData} {xs:List V} {ds:List PyData}:Is H x d->Iss H xs ds->Iss H (x :: xs) (d :: ds)
end
section
variable {X:Cx} {pins:List (Addr×Obj)} {σ:St} {H:Hp} {s:Shared}
theorem Z0(hc:X.calm=true):CallR X (.builtin "sum") (fun xs H Q=>∃ (l:Addr) (ns:List Int),xs=[.ref l]/\SqL X.K H l (ns.map V.int)/\Q (.int ns.sum) H):=by
 intro pins s σ H xs us Q I r h;obtain ⟨l,ns,rfl,hq,q⟩:=h;obtain ⟨u,rfl,ru⟩:=A8 r;cases ru;obtain ⟨its,rv,p,hz⟩:=I.list hq;have hi:IntsAre its ns:=a2w rv;obtain ⟨ys,e⟩:=hi.allInts.items;have en:ys.toList.map (·.1)=ns:=by rw [<- nums_intItems,<- e];simpa using hi.numsOf
 refine sum_intListG (xs:=ys) (I.ok.hd hc) (by rw [<- e];exact p.isList) fun h' tk t' hk=>⟨.int ns.sum,H,I.kept hk,⟨t',?_⟩,q⟩
 rw [preSum_eq,List.take_of_length_le (by simp),en]
end
end L2
namespace L2
open PySem PySem.Spec PyProof.Rows
structure Cal(P:Program)(w:World)(K:PySem.W.Frag)(mg:Str->Option Value)(base:Heap)(k:Nat)(x:Str)(ps:List Str)(sp:Sp):Prop where
 ex:∃ (f:Addr) (fd:FuncData),t8 P w K mg base CX0 k f fd ps sp/\mg x=some (.ref f)/\PySem.W.keepIn K (.ref f)=true/\Binds K fd ps []
section
variable {X:Cx} {k:Nat} {ps:List Str} {sp:Sp} {x:Str} {p pos:Pos} {e:Expr} {es:List Expr} {t:TA}
theorem b4k(c:Cal X.prog X.w X.K X.mg X.base k x ps sp)(hr:Room k X.A)(hg:Gl X x)(ha:PA X (e :: es) t)(hdb:(x == ("__debug__":Str))=false:=by decide)
  (he:starEach (e :: es) X.env=(false,eval e X.env) :: starEach es X.env:=by rfl) (hpl:(backTo pos (starEach es X.env)).any (·.1)=false:=by rfl):PE X (.Call (.Name x p) (e :: es) [] pos) (b3b sp [] E0 t):=by
 obtain ⟨f,fd,F,hm,hk,hb⟩:=c.ex;exact b0j F hr hg hm hk hb .nil b9d ha hdb he hpl
end
end L2
namespace L2
open PySem PySem.Spec PyProof.Rows
section
variable {X:Cx}
end
end L2
namespace L2
open PySem PySem.Spec PyProof.Rows
section
variable {X:Cx} {e st:Expr} {te:TE} {lo hi:Option Expr} {tl th ts:TO} {pos p2:Pos}
end
end L2
namespace L2
open PySem PySem.Spec PyProof.Rows
section
variable {X:Cx}
end
end L2
namespace L2
open PySem PySem.Spec PyProof.Rows
section
variable {prog:Program} {w:World} {A:Around} {E:Value->Shared->Prop} {s:Shared}
end
section
variable {X:Cx} {pos:Pos}
end
end L2
namespace L2
open PySem PySem.Spec PyProof.Rows
section
variable {prog:Program} {w:World} {A:Around} {E:Value->Shared->Prop} {s:Shared}
end
end L2
namespace L2
open PySem PySem.Spec PyProof.Rows
section
variable {X:Cx}
theorem V3:∀ {bs:List Bool} {its:List Value},Vals (bs.map V.bl) its->its=bs.map Value.bool
 |[],_,r=>by rw [List.map_nil] at r;cases r;rfl
 |b :: bs,_,r=>by
  rw [List.map_cons] at r
  cases r with
  |cons h t=>rw [V3 t,(show _=Value.bool b from h)];rfl
theorem a4e(bs:List Bool):((List.range bs.length).all fun i=>(bs[i]?).getD true)=bs.all id:=by
 rw [Bool.eq_iff_iff,List.all_eq_true,List.all_eq_true]
 constructor
 ·intro h x hx;obtain ⟨i,hi,rfl⟩:=List.getElem_of_mem hx
  have:=h i (List.mem_range.mpr hi)
  rw [List.getElem?_eq_getElem hi] at this;exact this
 ·intro h i hi;have hi:=List.mem_range.mp hi;rw [List.getElem?_eq_getElem hi];exact h _ (List.getElem_mem hi)
theorem Y4(hc:X.calm=true):CallR X (.builtin "all") (fun xs H Q=>∃ (l:Addr) (bs:List Bool),xs=[.ref l]/\SqL X.K H l (bs.map V.bl)/\Q (.bl (bs.all id)) H):=by
 intro pins s σ H xs us Q I r h;obtain ⟨l,bs,rfl,hq,q⟩:=h;obtain ⟨u,rfl,ru⟩:=A8 r;cases ru;obtain ⟨its,rv,p,hz⟩:=I.list hq;have e:=V3 rv;subst e;have hlt:l < s.heap.objs.size:=let ⟨_,e,_⟩:=p.isList;Heap.lt_size e
 refine call_all_walk (wpAny_pyIter_list p.isList ⟨s.heap.objs.size,[s.heap.objs.size,l],[s.heap.objs.size],(bs.map Value.bool).toArray.size,_,_,fun i=>(bs[i]?).getD true,rfl,Walks.list (A:=X.A.in1) (I.ok.hd hc) _ l (Nat.ne_of_lt hlt) _,⟨⟨_,Heap.get?_push_size _ rfl,rfl,rfl⟩,p.isList.push _⟩,fun i v s' Q' E' hP hQ=>?_,fun h' tk hk=>?_⟩)
 ·have hP:(bs.map Value.bool)[i]?=some v:=by simpa using hP
  rw [List.getElem?_map] at hP
  cases e:bs[i]? with
  |none=>rw [e] at hP;cases hP
  |some b =>
   rw [e] at hP;cases hP;have hQ:Q' ((bs[i]?).getD true) s':=hQ;rw [e] at hQ;exact wpAny_truthy_bool hQ
 ·have e:((List.range (bs.map Value.bool).toArray.size).all fun i=>(bs[i]?).getD true)=bs.all id:=by
   rw [List.size_toArray,List.length_map];exact a4e bs
  rw [e];refine ⟨.bl (bs.all id),H,I.kept (t':=tk) (fun b o q=>hk b o (fun z=>?_) (Heap.get?_push_of_some _ q)),rfl,q⟩;rw [List.mem_singleton.mp z] at q;exact Nat.lt_irrefl _ (Heap.lt_size q)
end
end L2
namespace L2
open PySem PySem.Spec PyProof.Rows
section
variable {X:Cx} {tg:Expr}
end
theorem Inv.turnedL{X:Cx}{pins:List (Addr×Obj)}{σ:St}{H:Hp}{s:Shared}{h':Heap}{t':Nat}{ch:List Addr}(I:Inv X pins σ H s)(k:∀ b o,b ∉ ch->s.heap.get? b=some o->h'.get? b=some o)(f:∀ b ∈ ch,L7 X pins H b):Inv X pins σ H { s with heap:=h',toks:=t' }:=by
 have nit:∀ b u,H b=some u->b ∉ ch:=fun b u q z=>by rw [(f b z).1] at q;cases q
 refine I.step (g':=s.gens) (d':=s.drawn) (ch:=ch) (fun b hb=>?_) (fun b o _ _ hc q _=>k b o hc q) (fun b o _ _ hc q _=>⟨o.slots,k b o hc q⟩) (fun _ _ _ _ n=>n)
  (fun b o hc q=>⟨o,k b o hc q⟩) (fun _ _ q=>q) (fun _ _ _ q=>q) (fun b ps q=>⟨#[],by rw [q];simp⟩) (fun m hm=>?_) (fun b u q=>?_) I.bare
 ·have fe:=f b hb;exact ⟨fe.2.2.2.1,fe.2.1,fe.2.2.2.2.1,fe.2.2.2.2.2⟩
 ·obtain ⟨o,es,ep,ho,r⟩:=hm;exact ⟨o,es,ep,k _ o (fun z=>(f _ z).2.1 rfl) ho,r⟩
 ·refine (I.hok b u q).stay (fun c v hc z=>?_) (fun _ z=>z) fun _ _ z=>z
  rcases hc with y | y
  ·rw [y];rw [y] at z;exact k b v (nit b u q) z
  ·exact k c v (nit c _ y) z
theorem b6C{x a b:Nat}(h1:x ≠ a)(h2:x ≠ b):x ∉ [a,b]:=by simp [h1,h2]
section
variable {X:Cx}
end
end L2
namespace L2
open PySem
end L2
namespace L2
open PySem PySem.Spec PyProof.Rows
section
variable {prog:Program} {w:World} {A:Around} {E:Value->Shared->Prop} {s:Shared}
theorem a2s{e it:Addr}{fp:List Addr}{n i:Nat}{j:Int}{P:Nat->Value->Prop}{St:Nat->Heap->Prop}{old:Value}{Q:Value->Shared->Prop}(D:Draws prog w A it fp n P St)(he:IsEnum s.heap e it j old)(hst:St i s.heap)(hlt:i < n)(hne:e ≠ it)(hef:e ∉ fp)
  (hQ:∀ x h' tk,P i x->IsEnumOut h' e it (j + 1) x s.heap.objs.size->St (i + 1) h'->h'.get? s.heap.objs.size=some { cls:=.type "tuple",data:=.seq #[.int j tk,x] }->(∀ b o,b ≠ e->b ≠ it->s.heap.get? b=some o->h'.get? b=some o)->Q (.ref s.heap.objs.size) { s with heap:=h',toks:=tk + 1 }) :
  wpAny (model prog w) A (Builtin.«enumerate.__next__» ⟨[.ref e],[]⟩) (fun fin s'=>∃ v,fin = .done (.ret v)/\Q v s') E s:=by
 obtain ⟨hp,g,d,tk₀,os⟩:=s;show wpAny _ _ (field (.ref e) 2 >>= _) _ _ _;refine wpAny_bind (wpAny_field he rfl (x:=.ref it) rfl (wpAny_bind (D.item i _ _ _ hlt hst fun x g1 tk px st1 e1=>?_)))
 replace e1:Heap.SameBut it hp g1:=e1
 have he1:IsEnum g1 e it j old:=(e1.2 e hne).trans he;show wpAny _ _ (field (.ref e) 3 >>= _) _ _ ⟨g1,g,d,tk,os⟩;refine wpAny_bind (wpAny_field he1 rfl (x:=rawInt j) rfl ?_);show wpAny _ _ (field (.ref e) 4 >>= _) _ _ ⟨g1,g,d,tk,os⟩;refine wpAny_bind (wpAny_field he1 rfl (x:=.none) rfl ?_);show wpAny _ _ (mkInt j >>= _) _ _ ⟨g1,g,d,tk,os⟩;refine wpAny_bind (wpAny_mkInt ?_);show wpAny _ _ (setField (.ref e) 3 (rawInt (j + 1)) >>= _) _ _ ⟨g1,g,d,tk + 1,os⟩;refine wpAny_bind (wpAny_setField_rec he1 (by simp) fun g2 he2 e2=>?_)
 replace e2:Heap.SameBut e g1 g2:=e2
 replace he2:IsEnum g2 e it (j + 1) old:=he2
 show wpAny _ _ (setField (.ref e) 4 .none >>= _) _ _ ⟨g2,g,d,tk + 1,os⟩;refine wpAny_bind (wpAny_setField_rec he2 (by simp) fun g3 he3 e3=>?_)
 replace e3:Heap.SameBut e g2 g3:=e3
 replace he3:IsEnum g3 e it (j + 1) old:=he3
 show wpAny _ _ (newTuple [.int j tk,x] >>= _) _ _ ⟨g3,g,d,tk + 1,os⟩;refine wpAny_bind (wpAny_newTuple ?_);have he4:IsEnum (g3.push { cls:=.type "tuple",data:=.seq #[.int j tk,x] }) e it (j + 1) old:=Heap.get?_push_of_some _ he3;generalize hg4:g3.push { cls:=.type "tuple",data:=.seq #[.int j tk,x] }=g4 at he4;have hsz:g3.objs.size=hp.objs.size:=by rw [e3.1,e2.1,e1.1]
 have hel:e < hp.objs.size:=Heap.lt_size he;have t4:g4.get? hp.objs.size=some { cls:=.type "tuple",data:=.seq #[.int j tk,x] }:=by rw [<- hg4,<- hsz];exact Heap.get?_push_size _ rfl
 have k4:∀ b o,b ≠ e->b ≠ it->hp.get? b=some o->g4.get? b=some o:=fun b o hbe hbi hb=>by
  rw [<- hg4];exact Heap.get?_push_of_some _ (e3.extBut b o hbe (e2.extBut b o hbe (e1.extBut b o hbi hb)))
 have st4:St (i + 1) g4:=D.frame _ _ _ st1 fun b hb o y=>by
  have hbe:b ≠ e:=fun q=>hef (q ▸ hb);rw [<- hg4];exact Heap.get?_push_of_some _ (e3.extBut b o hbe (e2.extBut b o hbe y))
 show wpAny _ _ (Builtin.SmallTypes.ownedTupleIsFree (.ref e) >>= _) _ _ ⟨g4,g,d,tk + 1,os⟩;rw [hsz];clear hg4 he3 e3 he2 e2 he1 e1 st1 hsz g3 g2 g1;refine wpAny_bind ?_;unfold Builtin.SmallTypes.ownedTupleIsFree;refine wpAny_bind (wpAny_field he4 rfl (x:=.none) rfl (wpAny_pure ?_));simp only [if_true];refine wpAny_bind (wpAny_rule (wpAny_bind (wpAny_field he4 rfl (x:=old) rfl (wpAny_bind (wpAny_setField_rec he4 (by simp) fun g5 he5 e5=>?_)))))
 replace e5:Heap.SameBut e g4 g5:=e5
 replace he5:IsEnum g5 e it (j + 1) x:=he5
 show wpAny _ _ (Builtin.SmallTypes.ownedTupleHandOut (.ref e) (.ref hp.objs.size) >>= _) _ _ ⟨g5,g,d,tk + 1,os⟩;refine wpAny_bind ?_;unfold Builtin.SmallTypes.ownedTupleHandOut;refine wpAny_bind (wpAny_setField_rec he5 (by simp) fun g6 he6 e6=>?_)
 replace e6:Heap.SameBut e g5 g6:=e6
 replace he6:IsEnumOut g6 e it (j + 1) x hp.objs.size:=he6
 refine wpAny_setField_rec he6 (by simp) fun g7 he7 e7=>?_
 replace e7:Heap.SameBut e g6 g7:=e7
 replace he7:IsEnumOut g7 e it (j + 1) x hp.objs.size:=he7
 have up:∀ b o,b ≠ e->g4.get? b=some o->g7.get? b=some o:=fun b o hbe y=>e7.extBut b o hbe (e6.extBut b o hbe (e5.extBut b o hbe y));exact wpAny_bind (wpAny_letGo (wpAny_pure ⟨_,rfl,hQ x g7 tk px he7 (D.frame _ _ _ st4 fun b hb o y=>up b o (fun q=>hef (q ▸ hb)) y) (up _ _ (Nat.ne_of_gt hel) t4) fun b o hbe hbi hb=>up b o hbe (k4 b o hbe hbi hb)⟩))
theorem S2(l:Addr)(items:Array Value)(n:Nat)(dct:Option Addr)(sl:Array (Option Value))(t:Tok) :
  Meets (Builtin.«enumerate.__new__» ⟨[.type "enumerate",.ref l],[(Str.ofString "start",.int 1 t)]⟩) (fun _ R s=>s.heap.get? l=some { cls:=.type "list",dict:=dct,data:=.seq items n,slots:=sl } /\
   R (.ok (.ret (.ref (s.heap.push { cls:=.type "list_iterator",data:=.fields #[.ref l,.int 0 0] }).objs.size)))
    { s with heap:=(s.heap.push { cls:=.type "list_iterator",data:=.fields #[.ref l,.int 0 0] }).push { cls:=.type "enumerate",data:=.fields #[.none,.bool false,.ref s.heap.objs.size,rawInt 1,.none,.none] } }) :=
 .of_wp fun prog w A R s h=>by
  obtain ⟨hp,g,d,tk,os⟩:=s;obtain ⟨hl,h⟩:=h;have hsub:=sub_enumerate;have hL:Heap.IsList (Shared.heap ⟨hp,g,d,tk,os⟩) l items:=⟨_,hl,rfl,n,rfl⟩
  wp_walk using PySem.AutoSeq1.wpAny_loadPart' hl
  refine wpAny_stack_any fun st=>wpAny_pure ?_;split
  ·rename_i c _ _ _ _ _
   cases (c == Value.type "enumerate")
   ·wp_walk using PySem.AutoSeq1.wpAny_loadPart' hl,wpAny_pyIter_list hL
    exact ⟨_,rfl,h⟩
   ·wp_walk using PySem.AutoSeq1.wpAny_loadPart' hl,wpAny_pyIter_list hL
    exact ⟨_,rfl,h⟩
  ·wp_walk using PySem.AutoSeq1.wpAny_loadPart' hl,wpAny_pyIter_list hL
   exact ⟨_,rfl,h⟩
end
end L2
namespace L2
open PySem PySem.Spec PyProof.Rows
section
variable {prog:Program} {w:World} {A:Around} {E:Value->Shared->Prop} {s:Shared}
theorem a9N{T newId:String}{self a:Value}{rest:List Value}{kw:List (Str×Value)}(hl:typeLookup (.type T) "__init__" = pure (some (.builtin "object.__init__")))(hm:Bind.madeBy (.type T)=pure (some newId))(hne:(some newId != some "object.__new__")=true) :
  Meets (Builtin.«object.__init__» ⟨self :: a :: rest,kw⟩) (fun _ R s=>s.TypeIs self T/\R (.ok (.ret .none)) s):=by
 refine Meets.of_wp fun prog w A R s hs=>?_;obtain ⟨hT,hq⟩:=hs
 repeat (any_goals (first | assumption | wp_step))
 exact ⟨_,rfl,hq⟩
theorem a1T{T newId:String}{Bn:Builtin}{a:Value}{args:List Value}{kw:List (Str×Value)}{S:PySem.Spec}{Q:Value->Shared->Prop}(ft:TypeCalled T newId "object.__init__")(hne:(some newId != some "object.__new__")=true)
  (hct:checkTypeCall T ⟨a :: args,kw⟩=pure ()) (hcn:checkBuiltinCall newId ⟨.type T :: a :: args,kw⟩=pure ()) (hok:∀ obj,argsOk "object.__init__" ⟨obj :: a :: args,kw⟩) (entryN:entryFor table newId=some Bn) (g:Meets (Bn ⟨.type T :: a :: args,kw⟩) S)
  (h:S A.in1 (wants (fun obj s₁=>s₁.TypeIs obj T/\Q obj s₁) E) s):wpAny (model prog w) A (call (.type T) (a :: args) kw) Q E s:=by
 obtain ⟨c,tl,hmro⟩:=ft.mro;have hmade:=ft.made;have hsub:=ft.sub;refine wpAny_call (codeAny_of_tree ?_);show wpAny _ _ (callAny (.type T) _) _ _ _;refine wpAny_pure ⟨Code.quiet_builtin _ (by decide +kernel),codeAny_builtin F.entry_type_call ?_⟩;rw [Around.under_plain (weight_type_call_type T (a :: args) kw) (units_type_call_type T (a :: args) kw)];have h1:=ft.notType;have h2:=ft.canCreate
 repeat (any_goals (first | assumption | wp_step))
 refine codeAny_mono (codeAny_call_builtin ft.plain entryN (wpAny_of_eq hcn (g prog w A.in1 _ s h))) fun r s1 hr=>?_
 cases r with
 |error e=>exact hr
 |ok fl =>
  cases fl with
  |ret obj =>
   obtain ⟨hT,hq1⟩:=hr;have hli:=ft.init.lookup;have hbi:=ft.init.bind obj
   repeat (any_goals (first | assumption | wp_step))
   refine codeAny_mono (codeAny_call_builtin ft.init.plain F.entry_object_init (ft.init.check _ _ _ _ _ _ _ _ hT (hok obj) (a9N (kw:=kw) ft.init.lookup ft.made hne prog w A.in1 (wants (fun r s₂=>r = .none/\Q obj s₂) E) s1 ⟨hT,rfl,hq1⟩))) fun r2 s2 hr2=>?_
   cases r2 with
   |error e=>exact hr2
   |ok fl2 =>
    cases fl2 with
    |ret r =>
     obtain ⟨rfl,hq⟩:=hr2
     repeat (any_goals (first | assumption | wp_step))
    |_=>exact hr2.elim
  |_=>exact hr.elim
theorem a0y(a:Value)(t:Tok):checkTypeCall "enumerate" ⟨[a],[(Str.ofString "start",.int 1 t)]⟩=pure ():=by kernel_rfl
theorem a1L(a:Value)(t:Tok):checkBuiltinCall "enumerate.__new__" ⟨[.type "enumerate",a],[(Str.ofString "start",.int 1 t)]⟩=pure ():=by kernel_rfl
theorem a0E(o a:Value)(t:Tok):argsOk "object.__init__" ⟨[o,a],[(Str.ofString "start",.int 1 t)]⟩:=by
 unfold argsOk;rw [signature?_of (id:= "object.__init__") (n:=['_','_','t','i','n','i','_','_']) (o:=['t','c','e','j','b','o']) (by kernel_rfl) F.owner_object];kernel_rfl
theorem T4{l:Addr}{items:Array Value}{t:Tok}{Q:Value->Shared->Prop}(hL:s.heap.IsList l items)
  (h:∀ h',IsEnum h' (s.heap.objs.size + 1) s.heap.objs.size 1 .none->h'.IsListIter s.heap.objs.size l 0->(∀ b o,s.heap.get? b=some o->h'.get? b=some o)->Q (.ref (s.heap.objs.size + 1)) { s with heap:=h' }) :
  wpAny (model prog w) A (call (.type "enumerate") [.ref l] [(Str.ofString "start",.int 1 t)]) Q E s:=by
 obtain ⟨⟨c,dct,dt,sl⟩,hl,hc,n,hd⟩:=hL
 replace hc:c = .type "list":=hc
 replace hd:dt = .seq items n:=hd
 subst hc hd;refine a1T F.called_enumerate (by decide) (a0y _ t) (a1L _ t) (fun obj=>a0E obj _ t) F.entry_enumerate_new (S2 l items n dct sl t) ⟨hl,?_⟩;have hz:(s.heap.push { cls:=.type "list_iterator",data:=.fields #[.ref l,.int 0 0] }).objs.size=s.heap.objs.size + 1:=Heap.size_push ..;show _/\_;rw [hz]
 have he:IsEnum ((s.heap.push { cls:=.type "list_iterator",data:=.fields #[.ref l,.int 0 0] }).push { cls:=.type "enumerate",data:=.fields #[.none,.bool false,.ref s.heap.objs.size,rawInt 1,.none,.none] }) (s.heap.objs.size + 1) s.heap.objs.size 1 .none:=by
  have:=Heap.get?_push_size (s.heap.push { cls:=.type "list_iterator",data:=.fields #[.ref l,.int 0 0] }) (o:={ cls:=.type "enumerate",data:=.fields #[.none,.bool false,.ref s.heap.objs.size,rawInt 1,.none,.none] }) rfl
  rw [hz] at this;exact this
 exact ⟨⟨_,he,rfl⟩,h _ he ⟨_,Heap.get?_push_of_some _ (Heap.get?_push_size _ rfl),rfl,rfl⟩ fun b o x=>Heap.get?_push_of_some _ (Heap.get?_push_of_some _ x)⟩
end
end L2
namespace L2
open PySem PySem.Spec PyProof.Rows
theorem a0I{M:Model}{A:Around}{E:Value->Shared->Prop}{s:Shared}{pos:Pos}{T:String}{x kt:Sem Value}{kn:Str}{Q:Value->Shared->Prop}
  (h:wpAny M A (spliced [(false,x)]) (fun vs s1=>wpAny M A kt (fun kv s2=>wpAny M A (call (.type T) vs [(kn,kv)]) Q E s2) E s1) E s) :
  wpAny M A (callWith pos (.type T) [] [(false,x)] [(some kn,do let v <- kt;standAt pos;pure v)]) Q E s:=by
 unfold callWith;refine wpAny_bind (wpAny_holding ?_);unfold evalArgs;show wpAny M A (spliced [(false,x)] >>= _) _ E s;refine wpAny_bind (wpAny_mono h (fun vs s1 h1=>?_) fun _ _ z=>z);refine wpAny_holding ?_;simp only [List.all_cons,List.all_nil,Option.isSome_some,Bool.and_true,if_true,List.map_cons,List.map_nil,List.filterMap_cons,List.filterMap_nil];refine wpAny_bind (wpAny_evalAll_cons (wpAny_bind (wpAny_mono h1 (fun kv s2 h2=>wpAny_bind (wpAny_standAt (wpAny_pure (wpAny_evalAll_nil ?_)))) fun _ _ z=>z)));refine wpAny_bind (wpAny_pure (wpAny_pure (wpAny_bind (wpAny_standAt ?_))));simp only [List.any_cons,List.any_nil,Option.isNone_some,Bool.or_false];refine wpAny_bind (wpAny_pure ?_);exact wpAny_bind (wpAny_mono h2 (fun r s3 hr=>wpAny_bind (wpAny_holding (wpAny_point (wpAny_pure hr)))) fun _ _ z=>z)
def b5s(Sq:Hp->List V->Prop):It :=
 ⟨fun i H=>∃ xs x,Sq H xs/\xs[i]?=some x,fun i H x H'=>∃ T v,x = .ref T/\H T=none/\H'=upd H T (.tup [.int ((i:Nat) + 1),v])/\∀ xs,Sq H xs->xs[i]?=some v,fun i H=>∃ xs,Sq H xs/\xs.length=i⟩
theorem a2r{P:Program}{w:World}{K:PySem.W.Frag}{a it:Addr}{Sq:Hp->List V->Prop}{IsIt:Nat->Heap->Prop}(S:O2 P w K a it Sq IsIt)(e:Addr)(hei:e ≠ it)(hea:e ≠ a){es:List Expr}{x1}{pos:Pos} :
  a1g P w K (.Tuple es x1 pos) (b5s Sq) [e,it] e (fun i h=>(∃ old,IsEnum h e it ((i:Nat) + 1:Int) old)/\IsIt i h) where
 mem:=by simp
 obj:=fun i h st b hb=>by
  obtain ⟨⟨old,he⟩,hit⟩:=st
  rcases List.mem_cons.mp hb with z | z
  ·subst z;exact ⟨_,he,fun v z=>by cases z⟩
  ·have z:=List.mem_singleton.mp z;subst z;exact S.live i h hit
 keep:=fun i h h' st k=>by
  obtain ⟨⟨old,he⟩,hit⟩:=st;exact ⟨⟨old,k e (by simp) _ he⟩,S.at_ i h h' hit fun o q=>k it (by simp) o q⟩
 item:=by
  intro X hP hw hK hc i pins s σ H E I hf st hg;obtain ⟨⟨old,he⟩,hit⟩:=st;obtain ⟨xs,x,hq,hx⟩:=hg;obtain ⟨its,rv,_,St,D,st0,fromSt⟩:=S.drw X hP hw hK hc i pins s σ H xs I hit hq;obtain ⟨u,hu,ru⟩:=rv.get hx;have hlt:i < its.length:=(List.getElem?_eq_some_iff.mp hu).1;have hef:e ∉ [it,a]:=b6C hei hea;have hT:s.TypeIs (.ref e) "enumerate":=⟨_,he,rfl⟩
  unfold pyNext
  refine wpAny_bind (wpAny_attempt (wpAny_callSpecial?_slot (name:=Str.ofString "__next__") hT F.slot_enumerate_next (wpAny_call_entry F.slot_enumerate_next hT F.entry_enumerate_next
   (a2s D he st0 hlt hei hef fun y h1 tk hy heo hst1 htup hk=>wpAny_pure ?_) (F.args_enumerate_next_1 _))))
  have ey:y=u:=Option.some.inj (hy.symm.trans hu);subst ey;refine ⟨_,rfl,wpAny_letOwnedTupleGo_enum (s:={ s with heap:=h1,toks:=tk + 1 }) heo fun h2 he2 sb2=>?_⟩;have hTn:H s.heap.objs.size=none:=I.hok.fresh (Nat.le_refl _)
  have Im:Inv X pins σ (upd H s.heap.objs.size (.tup [.int ((i:Nat) + 1),x])) { s with heap:=s.heap.push { cls:=.type "tuple",data:=.seq #[.int ((i:Int) + 1) tk,y] } } :=
   I.laid (t':=s.toks) (fun b v q=>Heap.get?_push_of_some _ q) (Nat.le_refl _) ⟨by show 2 <= sizeLine;decide,[.int ((i:Int) + 1) tk,y],.cons ⟨tk,rfl⟩ (.cons ru .nil),⟨_,Heap.get?_push_size _ rfl,rfl,_,rfl⟩⟩
  have live:∀ b ∈ [e,it],b ≠ s.heap.objs.size:=fun b hb q=>by
   have lt:∀ {c o},s.heap.get? c=some o->c ≠ s.heap.objs.size:=fun e=>Nat.ne_of_lt (Heap.lt_size e)
   rcases List.mem_cons.mp hb with z | z
   ·exact lt he (z ▸ q)
   ·have z:=List.mem_singleton.mp z;obtain ⟨o,r,_⟩:=S.live i _ hit;exact lt r (z ▸ q)
  have fp':∀ b ∈ [e,it],L7 X pins (upd H s.heap.objs.size (.tup [.int ((i:Nat) + 1),x])) b:=fun b hb=>⟨by rw [p5 (live b hb)];exact (hf b hb).1,(hf b hb).2⟩
  have I2:Inv X pins σ (upd H s.heap.objs.size (.tup [.int ((i:Nat) + 1),x])) { s with heap:=h2,toks:=tk + 1 } :=
   Inv.turnedL (s:={ s with heap:=s.heap.push { cls:=.type "tuple",data:=.seq #[.int ((i:Int) + 1) tk,y] } }) (t':=tk + 1) (h':=h2) (ch:=[e,it]) Im (fun b o hb q=>by
    have q:(s.heap.push { cls:=.type "tuple",data:=.seq #[.int ((i:Int) + 1) tk,y] }).get? b=some o:=q;simp only [List.mem_cons,List.not_mem_nil,or_false,not_or] at hb;refine (sb2.2 b hb.1).trans ?_
    rcases Heap.get?_push_cases q with ⟨hb',ho⟩ | q'
    ·subst hb';subst ho;exact htup
    ·exact hk b o hb.1 hb.2 q') fp'
  refine ⟨.ref s.heap.objs.size,_,I2,rfl,⟨_,x,rfl,hTn,rfl,fun ys hy=>by rw [S.inj X hP hw hK pins s σ H ys xs I hy hq];exact hx⟩,⟨⟨y,?_⟩,?_⟩,fun b hb=>(fp' b hb).1⟩
  ·have ec:((i + 1:Nat):Int) + 1=(i:Int) + 1 + 1:=by push_cast;rfl
   rw [ec];exact he2
  ·exact S.at_ _ _ _ (fromSt _ _ hst1) fun o q=>(sb2.2 it (Ne.symm hei)).trans q
 done:=by
  intro X hP hw hK hc i pins s σ H E I hf st hg;obtain ⟨⟨old,he⟩,hit⟩:=st;obtain ⟨xs,hq,hx⟩:=hg;obtain ⟨its,rv,_,St,D,st0,fromSt⟩:=S.drw X hP hw hK hc i pins s σ H xs I hit hq;have hl:=rv.length;have ei:its.length=i:=by omega
  rw [<- ei] at st0;obtain ⟨f0,f1,f2,f3,f4,f5⟩:=hf it (by simp);exact wpAny_pyNext_enum_endD D he st0 fun h1 eb=>⟨rfl,I.turned (t':=s.toks) (fun b o hb q=>eb b o hb q) f0 f1 f3 f4 f5⟩
 self:=fun _ _ _ _ _ st h=>wpAny_pyIter_enum st.1.choose_spec h
section
variable {X:Cx}
def a9M(K:PySem.W.Frag)(ta:TA):TI:=fun σ H R=>ta σ H fun vs H1=>∃ a,vs=[.ref a]/\(∃ xs,SqL K H1 a xs)/\R (b5s fun H xs=>SqL K H a xs) H1
theorem a4p{a:Expr}{ta:TA}{p pos kp:Pos}{cj:Nat}{kpos:Pos}{tg:Expr}(hg:Gl X "enumerate")(hm:X.mg "enumerate" = none)(ha:PA X [a] ta)(htg:∃ es x1 pos,tg = .Tuple es x1 pos:=by exact ⟨_,_,_,rfl⟩)(hs:starEach [a] X.env=[(false,eval a X.env)]:=by rfl) :
  PI X tg (.Call (.Name "enumerate" p) [a] [⟨some (Str.ofString "start"),.Constant (.int 1) cj kpos,kp⟩] pos) (a9M X.K ta):=by
 intro pins s σ H R I h;obtain ⟨es,x1,ppos,rfl⟩:=htg;refine wpAny_Call_Name_kw (J9 I hg hm boot_enumerate ?_);have hb:backTo pos (starEach [a] X.env)=[(false,eval a X.env)]:=by rw [hs];rfl
 rw [hb];show wpAny _ _ (callWith pos (.type "enumerate") [] [(false,eval a X.env)] [(some (Str.ofString "start"),do let v <- eval (.Constant (.int 1) cj kpos) X.env;standAt pos;pure v)]) _ _ _;have hq:=ha pos pins s σ H _ I h;rw [hb] at hq;refine a0I (thn hq fun us s1 zz0=>?_);obtain ⟨vs,H1,I1,r1,q1⟩:=zz0;obtain ⟨b,e,⟨xs,hq1⟩,q⟩:=q1;subst e;obtain ⟨u,rfl,ru⟩:=A8 r1;cases ru;refine thn ((a6Y (X:=X) (i:=1) (j:=cj) (pos:=kpos)) pins s1 σ H1 (fun v H'=>v = .int 1/\H'=H1) I1 ⟨rfl,rfl⟩) fun kv s2 zz0=>?_;obtain ⟨v,H2,I2,rk,ek,eh⟩:=zz0;subst ek eh;obtain ⟨t,rfl⟩:=rk;obtain ⟨its,rv,pl,hz⟩:=I2.list hq1;have hlt:b < s2.heap.objs.size:=let ⟨_,e,_⟩:=pl.isList;Heap.lt_size e
 refine T4 pl.isList fun h' he hit hk=>?_;refine wpAny_pyIter_enum (s:={ s2 with heap:=h' }) he ?_;refine ⟨s2.heap.objs.size + 1,[s2.heap.objs.size + 1,s2.heap.objs.size],_,_,H2,rfl,I2.kept (t':=s2.toks) hk,a2r (a1I b _) (s2.heap.objs.size + 1) (Nat.succ_ne_self _) (Nat.ne_of_gt (Nat.lt_succ_of_lt hlt)),⟨⟨_,he⟩,hit⟩,fun c hc=>?_,q⟩
 rcases List.mem_cons.mp hc with z | z
 ·subst z;exact I2.fpOk (Nat.le_succ _) (I2.hok.fresh (Nat.le_succ _))
 ·have z:=List.mem_singleton.mp z;subst z;exact I2.fpOk (Nat.le_refl _) (I2.hok.fresh (Nat.le_refl _))
end
end L2
namespace L2
open PySem
end L2
namespace L2
open PySem PySem.Spec PyProof.Rows
section
variable {X:Cx}
end
end L2
namespace DL
open PySem PySem.Spec L2
inductive D where
 |non | bl (b:Bool) | int (i:Int) | str (x:Str) | tup (xs:List D) | lst (xs:List D) | scr (xs:List D) | ref (i:Nat)
 |exc (cn:Str) (fs:List (Str×Int))
inductive O where
 |lst (xs:List D) | dT (z:Option Obj) (kvs:List (List Key×D)) | dK (kvs:List (Key×D)) | ins (cn:Str) (fs:List (Str×D))
structure KP where
 K:PySem.W.Frag
 π:List Addr
def VT(K:KP)(α:List Addr)(H:Hp)(a:Addr)(us:List V):Prop:=a ∉ α/\a ∉ K.π/\H a=some (.tup us)
def VS(K:KP)(α:List Addr)(H:Hp)(a:Addr)(us:List V):Prop :=
 (a ∉ α/\a ∉ K.π/\Rd H a (.lst us))\/∃ (o:Obj) (its:Array Value) (n:Nat),K.K.lookup a=some o/\o.cls = .type "list"/\o.dict=none/\o.data = .seq its n/\its.size <= sizeLine/\Vals us its.toList
def VL(K:KP)(α:List Addr)(H:Hp)(a:Addr)(us:List V):Prop:=a ∉ α/\a ∉ K.π/\H a=some (.lst us)
def VE(K:KP)(α:List Addr)(H:Hp)(a:Addr)(o:HO):Prop:=a ∉ α/\a ∉ K.π/\H a=some o
def b8s(fs:List (Str×Int))(dx:Addr)(h:Heap):Prop:=∃ mA,h.Ns1 dx mA/\PySem.Within mA (fs.map (·.1))/\∀ f,RelO ((fs.lookup f).map V.int) (mA f)
def b9Q(C:Addr)(dx:Option Addr)(a:Addr)(h:Heap):Prop:=∃ o vs,h.get? a=some o/\o.cls = .ref C/\o.dict=dx/\o.data = .fields vs
def XQ(K:KP)(α:List Addr)(H:Hp)(dx:Option Addr)(fs:List (Str×Int)):Prop:=(dx=none/\fs=[])\/∃ d,dx=some d/\VE K α H d (.ext (b8s fs d))
theorem XQ.map{K K':KP}{α α':List Addr}{H H':Hp}{dx:Option Addr}{fs:List (Str×Int)}(hE:∀ a o,VE K α H a o->VE K' α' H' a o)(h:XQ K α H dx fs):XQ K' α' H' dx fs:=h.imp id fun ⟨d,e,v⟩=>⟨d,e,hE _ _ v⟩
theorem VT.sq{K:KP}{α:List Addr}{H:Hp}{a:Addr}{us:List V}(h:VT K α H a us):SqT K.K H a us:=.inl (.inl h.2.2)
theorem VS.sq{K:KP}{α:List Addr}{H:Hp}{a:Addr}{us:List V}(h:VS K α H a us):SqL K.K H a us:=by
 rcases h with ⟨_,_,h⟩ | h
 ·exact .inl h
 ·exact .inr h
theorem VL.sq{K:KP}{α:List Addr}{H:Hp}{a:Addr}{us:List V}(h:VL K α H a us):SqL K.K H a us:=SqL.of h.2.2
mutual
inductive RelD(K:KP)(α:List Addr)(H:Hp):D->V->Prop
 |non:RelD K α H .non .non
 |bl (b:Bool):RelD K α H (.bl b) (.bl b)
 |int (i:Int):RelD K α H (.int i) (.int i)
 |str (x:Str):RelD K α H (.str x) (.str x)
 |tup {a:Addr} {us:List V} {ds:List D}:VT K α H a us->RelDs K α H ds us->RelD K α H (.tup ds) (.ref a)
 |lst {a:Addr} {us:List V} {ds:List D}:VL K α H a us->RelDs K α H ds us->RelD K α H (.lst ds) (.ref a)
 |scr {a:Addr} {us:List V} {ds:List D}:VS K α H a us->RelDs K α H ds us->RelD K α H (.scr ds) (.ref a)
 |ref {i:Nat} {a:Addr}:α[i]?=some a->RelD K α H (.ref i) (.ref a)
 |exc {a C:Addr} {dx:Option Addr} {cn:Str} {fs:List (Str×Int)}:PySem.W.nsIn K.K mainGlobals cn=some (some (.ref C))->VE K α H a (.ext (b9Q C dx a))->XQ K α H dx fs->RelD K α H (.exc cn fs) (.ref a)
inductive RelDs(K:KP)(α:List Addr)(H:Hp):List D->List V->Prop
 |nil:RelDs K α H [] []
 |cons {d:D} {u:V} {ds:List D} {us:List V}:RelD K α H d u->RelDs K α H ds us->RelDs K α H (d :: ds) (u :: us)
end
theorem RelD.map{K K':KP}{α α':List Addr}{H H':Hp}(hK:K'.K=K.K)(hT:∀ a us,VT K α H a us->VT K' α' H' a us)(hL:∀ a us,VL K α H a us->VL K' α' H' a us)(hS:∀ a us,VS K α H a us->VS K' α' H' a us)(hE:∀ a o,VE K α H a o->VE K' α' H' a o)
  (hR:∀ (i:Nat) (a:Addr),α[i]?=some a->α'[i]?=some a) {d:D} {v:V} (r:RelD K α H d v):RelD K' α' H' d v :=
 RelD.rec (motive_1:=fun d v _=>RelD K' α' H' d v) (motive_2:=fun ds us _=>RelDs K' α' H' ds us) .non .bl .int .str (fun t _ r=>.tup (hT _ _ t) r) (fun t _ r=>.lst (hL _ _ t) r) (fun t _ r=>.scr (hS _ _ t) r) (fun h=>.ref (hR _ _ h)) (fun n t r=>.exc (by rw [hK];exact n) (hE _ _ t) (r.map hE)) .nil (fun _ _ r t=>.cons r t) r
theorem RelDs.map{K K':KP}{α α':List Addr}{H H':Hp}(hK:K'.K=K.K)(hT:∀ a us,VT K α H a us->VT K' α' H' a us)(hL:∀ a us,VL K α H a us->VL K' α' H' a us)(hS:∀ a us,VS K α H a us->VS K' α' H' a us)(hE:∀ a o,VE K α H a o->VE K' α' H' a o)
  (hR:∀ (i:Nat) (a:Addr),α[i]?=some a->α'[i]?=some a) {ds:List D} {us:List V} (r:RelDs K α H ds us):RelDs K' α' H' ds us:=by
 induction ds generalizing us with
 |nil=>cases r;exact .nil
 |cons d ds ih=>cases r with | cons h t=>exact .cons (h.map hK hT hL hS hE hR) (ih t)
structure Ext(α:List Addr)(H:Hp)(α':List Addr)(H':Hp):Prop where
 pre:∃ β,α'=α ++ β/\∀ p ∈ β,H p=none
 keep:∀ b o,H b=some o->b ∉ α->H' b=some o
 dom:∀ b,H' b=none->H b=none
theorem Ext.refl(α:List Addr)(H:Hp):Ext α H α H:=⟨⟨[],by simp,fun p h=>nomatch h⟩,fun _ _ h _=>h,fun _ h=>h⟩
theorem Ext.out{α α':List Addr}{H H':Hp}(e:Ext α H α' H'){a:Addr}{o:HO}(h:a ∉ α)(ho:H a=some o):a ∉ α':=by
 obtain ⟨⟨β,rfl,hb⟩,_⟩:=e;intro z
 rcases List.mem_append.mp z with z | z
 ·exact h z
 ·rw [hb a z] at ho;cases ho
theorem Ext.trans{α α' α'':List Addr}{H H' H'':Hp}(e:Ext α H α' H')(f:Ext α' H' α'' H''):Ext α H α'' H'':=by
 refine ⟨?_,fun b o h n=>f.keep b o (e.keep b o h n) (e.out n h),fun b h=>e.dom b (f.dom b h)⟩;obtain ⟨⟨β,rfl,hb⟩,k,d⟩:=e;obtain ⟨⟨γ,rfl,hc⟩,_⟩:=f;refine ⟨β ++ γ,by simp,fun p hp=>?_⟩
 rcases List.mem_append.mp hp with z | z
 ·exact hb p z
 ·exact d p (hc p z)
theorem Ext.get{α α':List Addr}{H H':Hp}(e:Ext α H α' H'){i:Nat}{a:Addr}(h:α[i]?=some a):α'[i]?=some a:=by
 obtain ⟨⟨β,rfl,_⟩,_⟩:=e;have hi:i < α.length:=(List.getElem?_eq_some_iff.mp h).1;rw [List.getElem?_append_left hi];exact h
theorem Ext.new{α:List Addr}{H:Hp}{p:Addr}{o:HO}(h:H p=none):Ext α H α (upd H p o) :=
 ⟨⟨[],by simp,fun p h=>nomatch h⟩,fun b u e _=>by rw [p5 (A5 e h)];exact e,fun b e=>by
  by_cases z:b=p
  ·subst z;rw [l9] at e;cases e
  ·rw [p5 z] at e;exact e⟩
theorem Ext.newT{α:List Addr}{H:Hp}{p:Addr}{o:HO}(h:H p=none):Ext α H (α ++ [p]) (upd H p o) :=
 ⟨⟨[p],rfl,fun q hq=>by rw [List.mem_singleton.mp hq];exact h⟩,(Ext.new h).keep (α:=α),(Ext.new (α:=α) h).dom⟩
theorem Ext.write{α:List Addr}{H:Hp}{p:Addr}{o:HO}(h:p ∈ α):Ext α H α (upd H p o) :=
 ⟨⟨[],by simp,fun p h=>nomatch h⟩,fun b u e n=>by rw [p5 (fun (z:b=p)=>n (by rw [z];exact h))];exact e,fun b e=>by
  by_cases z:b=p
  ·subst z;rw [l9] at e;cases e
  ·rw [p5 z] at e;exact e⟩
theorem VT.mono{K:KP}{α α':List Addr}{H H':Hp}(e:Ext α H α' H'){a:Addr}{us:List V}(h:VT K α H a us):VT K α' H' a us:=⟨e.out h.1 h.2.2,h.2.1,e.keep _ _ h.2.2 h.1⟩
theorem VS.mono{K:KP}{α α':List Addr}{H H':Hp}(e:Ext α H α' H'){a:Addr}{us:List V}(h:VS K α H a us):VS K α' H' a us:=by
 rcases h with ⟨n,m,h | ⟨o,h⟩⟩ | h
 ·exact .inl ⟨e.out n h,m,.inl (e.keep _ _ h n)⟩
 ·exact .inl ⟨e.out n h,m,.inr ⟨o,e.keep _ _ h n⟩⟩
 ·exact .inr h
theorem VL.mono{K:KP}{α α':List Addr}{H H':Hp}(e:Ext α H α' H'){a:Addr}{us:List V}(h:VL K α H a us):VL K α' H' a us:=⟨e.out h.1 h.2.2,h.2.1,e.keep _ _ h.2.2 h.1⟩
theorem VE.mono{K:KP}{α α':List Addr}{H H':Hp}(e:Ext α H α' H'){a:Addr}{u:HO}(h:VE K α H a u):VE K α' H' a u:=⟨e.out h.1 h.2.2,h.2.1,e.keep _ _ h.2.2 h.1⟩
theorem RelD.mono{K:KP}{α α':List Addr}{H H':Hp}(e:Ext α H α' H'){d:D}{v:V}(r:RelD K α H d v):RelD K α' H' d v:=r.map rfl (fun _ _ t=>t.mono e) (fun _ _ t=>t.mono e) (fun _ _ t=>t.mono e) (fun _ _ t=>t.mono e) (fun _ _ h=>e.get h)
theorem RelDs.mono{K:KP}{α α':List Addr}{H H':Hp}(e:Ext α H α' H'){ds:List D}{us:List V}(r:RelDs K α H ds us):RelDs K α' H' ds us:=r.map rfl (fun _ _ t=>t.mono e) (fun _ _ t=>t.mono e) (fun _ _ t=>t.mono e) (fun _ _ t=>t.mono e) (fun _ _ h=>e.get h)
section
variable {K:KP} {α α':List Addr} {H H':Hp}
theorem RelDs.length:∀ {ds:List D} {us:List V},RelDs K α H ds us->ds.length=us.length
 |_,_,.nil=>rfl
 |_,_,.cons _ t=>by rw [List.length_cons,List.length_cons,RelDs.length t]
theorem RelDs.get:∀ {ds:List D} {us:List V} {i:Nat} {d:D},RelDs K α H ds us->ds[i]?=some d->∃ u,us[i]?=some u/\RelD K α H d u
 |_,_,_,_,.nil,e=>by simp at e
 |_,_,0,_,.cons r _,e=>by simp at e;subst e;exact ⟨_,rfl,r⟩
 |_,_,i + 1,d,.cons _ t,e=>by
  obtain ⟨u,h1,h2⟩:=RelDs.get (i:=i) (d:=d) t (by simpa using e);exact ⟨u,by simpa using h1,h2⟩
theorem RelDs.append:∀ {ds es:List D} {us ws:List V},RelDs K α H ds us->RelDs K α H es ws->RelDs K α H (ds ++ es) (us ++ ws)
 |_,_,_,_,.nil,s=>s
 |_,_,_,_,.cons r t,s=>.cons r (RelDs.append t s)
theorem RelDs.take:∀ {ds:List D} {us:List V} (n:Nat),RelDs K α H ds us->RelDs K α H (ds.take n) (us.take n)
 |_,_,0,_=>.nil
 |_,_,_ + 1,.nil=>.nil
 |_,_,n + 1,.cons r t=>.cons r (RelDs.take n t)
theorem RelDs.drop:∀ {ds:List D} {us:List V} (n:Nat),RelDs K α H ds us->RelDs K α H (ds.drop n) (us.drop n)
 |_,_,0,r=>r
 |_,_,_ + 1,.nil=>.nil
 |_,_,n + 1,.cons _ t=>RelDs.drop n t
theorem RelDs.set{d:D}{u:V}(r:RelD K α H d u):∀ {ds:List D} {us:List V} (i:Nat),RelDs K α H ds us->RelDs K α H (ds.set i d) (us.set i u)
 |_,_,_,.nil=>.nil
 |_,_,0,.cons _ t=>.cons r t
 |_,_,i + 1,.cons q t=>.cons q (RelDs.set r i t)
theorem RelDs.snoc{ds:List D}{us:List V}{d:D}{u:V}(r:RelDs K α H ds us)(h:RelD K α H d u):RelDs K α H (ds ++ [d]) (us ++ [u]):=r.append (.cons h .nil)
theorem RelDs.ints:∀ ns:List Int,RelDs K α H (ns.map D.int) (ns.map V.int)
 |[]=>.nil
 |n :: r=>.cons (.int n) (RelDs.ints r)
theorem RelDs.ints_inv{ns:List Int}{us:List V}(r:RelDs K α H (ns.map D.int) us):us=ns.map V.int:=by
 induction ns generalizing us with
 |nil=>cases r;rfl
 |cons n ns ih=>cases r with | cons h t=>cases h;rw [ih t];rfl
theorem RelDs.bls_inv{bs:List Bool}{us:List V}(r:RelDs K α H (bs.map D.bl) us):us=bs.map V.bl:=by
 induction bs generalizing us with
 |nil=>cases r;rfl
 |cons n ns ih=>cases r with | cons h t=>cases h;rw [ih t];rfl
theorem RelDs.inv1{d:D}{us:List V}(h:RelDs K α H [d] us):∃ u,us=[u]/\RelD K α H d u:=by
 cases h with
 |cons r t=>cases t;exact ⟨_,rfl,r⟩
theorem RelDs.inv2{d e:D}{us:List V}(h:RelDs K α H [d,e] us):∃ u v,us=[u,v]/\RelD K α H d u/\RelD K α H e v:=by
 cases h with
 |cons r t =>
  obtain ⟨v,rfl,q⟩:=t.inv1;exact ⟨_,_,rfl,r,q⟩
end
inductive RelKV(K:KP)(α:List Addr)(H:Hp){κ:Type}:List (κ×D)->List (κ×V)->Prop
 |nil:RelKV K α H [] []
 |cons {k:κ} {d:D} {u:V} {ds:List (κ×D)} {us:List (κ×V)}:RelD K α H d u->RelKV K α H ds us->RelKV K α H ((k,d) :: ds) ((k,u) :: us)
theorem RelKV.mono{K:KP}{α α':List Addr}{H H':Hp}{κ:Type}(e:Ext α H α' H'){ds:List (κ×D)}{us:List (κ×V)}(r:RelKV K α H ds us):RelKV K α' H' ds us:=by
 induction r with
 |nil=>exact .nil
 |cons h t ih=>exact .cons (h.mono e) ih
def b8w:Option Obj->HO->HO
 |none,u=>u
 |some o,u=>.frz o u
inductive RelO'(K:KP)(α:List Addr)(H:Hp)(p:Addr):O->Prop
 |lst {xs:List D} {us:List V}:H p=some (.lst us)->RelDs K α H xs us->RelO' K α H p (.lst xs)
 |dT {z:Option Obj} {kvs:List (List Key×D)} {us:List (List Key×V)}:H p=some (b8w z (.dT us))->RelKV K α H kvs us->RelO' K α H p (.dT z kvs)
 |dK {kvs:List (Key×D)} {us:List (Key×V)}:H p=some (.dK us)->RelKV K α H kvs us->RelO' K α H p (.dK kvs)
 |ins {C dx:Addr} {cn:Str} {fs:List (Str×D)} {us:List (Str×V)}:PySem.W.nsIn K.K mainGlobals cn=some (some (.ref C))->H p=some (.ins C dx us)->RelKV K α H fs us->RelO' K α H p (.ins cn fs)
def NoT(o:Option HO):Prop:=o ≠ none/\∀ us,o ≠ some (.tup us)
structure HRel(K:KP)(α:List Addr)(H:Hp)(h:List O):Prop where
 len:α.length=h.length
 nd:α.Nodup
 dis:∀ p ∈ K.π,p ∉ α/\NoT (H p)
 obj:∀ (i:Nat) (o:O),h[i]?=some o->∃ p,α[i]?=some p/\RelO' K α H p o
theorem NoT.ext{α α':List Addr}{H H':Hp}{p:Addr}(h:NoT (H p))(e:Ext α H α' H')(n:p ∉ α):NoT (H' p):=by
 cases q:H p with
 |none=>exact absurd q h.1
 |some o =>
  rw [e.keep p o q n];rw [q] at h;exact h
theorem RelO'.mono{K:KP}{α α':List Addr}{H H':Hp}(e:Ext α H α' H'){p:Addr}{o:O}(r:RelO' K α H p o)(k:H' p=H p):RelO' K α' H' p o:=by
 cases r with
 |lst h t=>exact .lst (k.trans h) (t.mono e)
 |dT h t=>exact .dT (k.trans h) (t.mono e)
 |dK h t=>exact .dK (k.trans h) (t.mono e)
 |ins n h t=>exact .ins n (k.trans h) (t.mono e)
section
variable {K:KP} {α α':List Addr} {H H':Hp} {h:List O}
theorem HRel.some_(R:HRel K α H h){p:Addr}(hp:p ∈ α):∃ o,H p=some o:=by
 obtain ⟨i,hi,rfl⟩:=List.getElem_of_mem hp;have hh:i < h.length:=by rw [<- R.len];exact hi
 obtain ⟨q,e,r⟩:=R.obj i h[i] (List.getElem?_eq_getElem hh);rw [List.getElem?_eq_getElem hi] at e;cases e;generalize h[i]=o at r
 cases r with
 |lst h t=>exact ⟨_,h⟩
 |dT h t=>exact ⟨_,h⟩
 |dK h t=>exact ⟨_,h⟩
 |ins n h t=>exact ⟨_,h⟩
theorem HRel.out(R:HRel K α H h){p:Addr}(hp:H p=none):p ∉ α:=fun z=>by
 obtain ⟨o,e⟩:=R.some_ z;rw [hp] at e;cases e
theorem HRel.same(R:HRel K α H h)(e:Ext α H α H')(k:∀ p ∈ α,H' p=H p):HRel K α H' h :=
 ⟨R.len,R.nd,fun p hp=>⟨(R.dis p hp).1,(R.dis p hp).2.ext e (R.dis p hp).1⟩,fun i o q=>by
  obtain ⟨p,ep,r⟩:=R.obj i o q;exact ⟨p,ep,r.mono e (k p (List.mem_of_getElem? ep))⟩⟩
theorem HRel.new(R:HRel K α H h){p:Addr}{o:HO}(hp:H p=none):HRel K α (upd H p o) h :=
 R.same (Ext.new hp) fun q hq=>p5 fun z=>R.out hp (z ▸ hq)
theorem HRel.newT(R:HRel K α H h){p:Addr}{o:HO}{u:O}(hp:H p=none)(r:RelO' K (α ++ [p]) (upd H p o) p u):HRel K (α ++ [p]) (upd H p o) (h ++ [u]):=by
 have np:=R.out hp;refine ⟨by simp [R.len],?_,fun q hq=>⟨fun z=>?_,(R.dis q hq).2.ext (Ext.new (α:=α) hp) (R.dis q hq).1⟩,fun i v q=>?_⟩
 ·rw [List.nodup_append];exact ⟨R.nd,by simp,fun a ha b hb=>by rw [List.mem_singleton.mp hb];exact fun z=>np (z ▸ ha)⟩
 ·rcases List.mem_append.mp z with z | z
  ·exact (R.dis q hq).1 z
  ·rw [List.mem_singleton.mp z] at hq;exact (R.dis p hq).2.1 hp
 ·by_cases hi:i < h.length
  ·rw [List.getElem?_append_left hi] at q;obtain ⟨a,ea,ra⟩:=R.obj i v q;refine ⟨a,(Ext.newT (o:=o) hp).get ea,ra.mono (Ext.newT hp) (p5 fun z=>np (z ▸ List.mem_of_getElem? ea))⟩
  ·have hi':i=h.length:=by
    have:=(List.getElem?_eq_some_iff.mp q).1
    rw [List.length_append,List.length_singleton] at this;omega
   subst hi';rw [List.getElem?_append_right (Nat.le_refl _)] at q
   simp at q;subst q;exact ⟨p,by rw [List.getElem?_append_right (by rw [R.len];exact Nat.le_refl _),R.len];simp,r⟩
theorem HRel.write(R:HRel K α H h){p:Addr}{i:Nat}{o:HO}{u:O}(hp:α[i]?=some p)(r:RelO' K α (upd H p o) p u):HRel K α (upd H p o) (h.set i u):=by
 have hm:=List.mem_of_getElem? hp;refine ⟨by simp [R.len],R.nd,fun q hq=>⟨(R.dis q hq).1,(R.dis q hq).2.ext (Ext.write (H:=H) (o:=o) hm) (R.dis q hq).1⟩,fun j v q=>?_⟩
 by_cases e:i=j
 ·subst e
  have hi:i < h.length:=by
   have:=(List.getElem?_eq_some_iff.mp q).1
   simpa using this
  rw [List.getElem?_set_self hi] at q;cases q;exact ⟨p,hp,r⟩
 ·rw [List.getElem?_set_ne e] at q;obtain ⟨a,ea,ra⟩:=R.obj j v q;refine ⟨a,ea,ra.mono (Ext.write hm) (p5 fun z=>e ?_)⟩;subst z;exact (List.getElem?_inj (List.getElem?_eq_some_iff.mp hp).1 R.nd).mp (hp.trans ea.symm)
theorem HRel.lst(R:HRel K α H h){i:Nat}{xs:List D}(e:h[i]?=some (.lst xs)):∃ p us,α[i]?=some p/\H p=some (.lst us)/\RelDs K α H xs us:=by
 obtain ⟨p,ep,r⟩:=R.obj i _ e
 cases r with
 |lst h t=>exact ⟨p,_,ep,h,t⟩
theorem HRel.dT(R:HRel K α H h){i:Nat}{z:Option Obj}{xs:List (List Key×D)}(e:h[i]?=some (.dT z xs)):∃ p us,α[i]?=some p/\H p=some (b8w z (.dT us))/\RelKV K α H xs us:=by
 obtain ⟨p,ep,r⟩:=R.obj i _ e
 cases r with
 |dT h t=>exact ⟨p,_,ep,h,t⟩
theorem HRel.dK(R:HRel K α H h){i:Nat}{xs:List (Key×D)}(e:h[i]?=some (.dK xs)):∃ p us,α[i]?=some p/\H p=some (.dK us)/\RelKV K α H xs us:=by
 obtain ⟨p,ep,r⟩:=R.obj i _ e
 cases r with
 |dK h t=>exact ⟨p,_,ep,h,t⟩
end
theorem HRel.outP{K:KP}{α:List Addr}{H:Hp}{h:List O}(R:HRel K α H h){p:Addr}(hp:H p=none):p ∉ K.π:=fun z=>(R.dis p z).2.1 hp
structure T5(D:Addr)(H H':Hp):Prop where
 same:∀ b,b ≠ D->H' b=H b
theorem VT.priv{K:KP}{α:List Addr}{H H':Hp}{D a:Addr}{us:List V}(e:T5 D H H')(hD:D ∈ K.π)(h:VT K α H a us):VT K α H' a us :=
 ⟨h.1,h.2.1,(e.same a fun z=>h.2.1 (z ▸ hD)).trans h.2.2⟩
theorem VS.priv{K:KP}{α:List Addr}{H H':Hp}{D a:Addr}{us:List V}(e:T5 D H H')(hD:D ∈ K.π)(h:VS K α H a us):VS K α H' a us:=by
 rcases h with ⟨n,m,h⟩ | h
 ·have z:a ≠ D:=fun z=>m (z ▸ hD);refine .inl ⟨n,m,?_⟩;unfold Rd at h ⊢;rw [e.same a z];exact h
 ·exact .inr h
theorem VL.priv{K:KP}{α:List Addr}{H H':Hp}{D a:Addr}{us:List V}(e:T5 D H H')(hD:D ∈ K.π)(h:VL K α H a us):VL K α H' a us :=
 ⟨h.1,h.2.1,(e.same a fun z=>h.2.1 (z ▸ hD)).trans h.2.2⟩
theorem VE.priv{K:KP}{α:List Addr}{H H':Hp}{D a:Addr}{u:HO}(e:T5 D H H')(hD:D ∈ K.π)(h:VE K α H a u):VE K α H' a u :=
 ⟨h.1,h.2.1,(e.same a fun z=>h.2.1 (z ▸ hD)).trans h.2.2⟩
theorem RelD.priv{K:KP}{α:List Addr}{H H':Hp}{D':Addr}(e:T5 D' H H')(hD:D' ∈ K.π){d:D}{v:V}(r:RelD K α H d v):RelD K α H' d v:=r.map rfl (fun _ _ t=>t.priv e hD) (fun _ _ t=>t.priv e hD) (fun _ _ t=>t.priv e hD) (fun _ _ t=>t.priv e hD) (fun _ _ h=>h)
theorem RelDs.priv{K:KP}{α:List Addr}{H H':Hp}{D':Addr}(e:T5 D' H H')(hD:D' ∈ K.π){ds:List D}{us:List V}(r:RelDs K α H ds us):RelDs K α H' ds us:=r.map rfl (fun _ _ t=>t.priv e hD) (fun _ _ t=>t.priv e hD) (fun _ _ t=>t.priv e hD) (fun _ _ t=>t.priv e hD) (fun _ _ h=>h)
theorem RelKV.priv{K:KP}{α:List Addr}{H H':Hp}{D':Addr}{κ:Type}(e:T5 D' H H')(hD:D' ∈ K.π){ds:List (κ×D)}{us:List (κ×V)}(r:RelKV K α H ds us):RelKV K α H' ds us:=by
 induction r with
 |nil=>exact .nil
 |cons h t ih=>exact .cons (h.priv e hD) ih
theorem HRel.priv{K:KP}{α:List Addr}{H H':Hp}{h:List O}{D':Addr}(e:T5 D' H H')(hD:D' ∈ K.π)(hs:NoT (H' D'))(R:HRel K α H h):HRel K α H' h :=
 ⟨R.len,R.nd,fun p hp=>⟨(R.dis p hp).1,by
  by_cases z:p=D'
  ·rw [z];exact hs
  ·rw [e.same p z];exact (R.dis p hp).2⟩,fun i o q=>by
  obtain ⟨p,ep,r⟩:=R.obj i o q;have z:p ≠ D':=fun z=>(R.dis D' hD).1 (z ▸ List.mem_of_getElem? ep);refine ⟨p,ep,?_⟩
  cases r with
  |lst h t=>exact .lst ((e.same p z).trans h) (t.priv e hD)
  |dT h t=>exact .dT ((e.same p z).trans h) (t.priv e hD)
  |dK h t=>exact .dK ((e.same p z).trans h) (t.priv e hD)
  |ins n h t=>exact .ins n ((e.same p z).trans h) (t.priv e hD)⟩
theorem VT.more{K:PySem.W.Frag}{π π':List Addr}{α:List Addr}{H:Hp}{a:Addr}{us:List V}(s:∀ p ∈ π',p ∈ π\/H p=none)(h:VT ⟨K,π⟩ α H a us):VT ⟨K,π'⟩ α H a us :=
 ⟨h.1,fun z=>(s a z).elim h.2.1 (fun w=>by rw [h.2.2] at w;exact nomatch w),h.2.2⟩
theorem VS.more{K:PySem.W.Frag}{π π':List Addr}{α:List Addr}{H:Hp}{a:Addr}{us:List V}(s:∀ p ∈ π',p ∈ π\/H p=none)(h:VS ⟨K,π⟩ α H a us):VS ⟨K,π'⟩ α H a us:=by
 rcases h with ⟨n,m,h⟩ | h
 ·refine .inl ⟨n,fun z=>?_,h⟩
  rcases s a z with z | z
  ·exact m z
  ·rcases h with h | ⟨o,h⟩ <;> rw [z] at h <;> cases h
 ·exact .inr h
theorem VL.more{K:PySem.W.Frag}{π π':List Addr}{α:List Addr}{H:Hp}{a:Addr}{us:List V}(s:∀ p ∈ π',p ∈ π\/H p=none)(h:VL ⟨K,π⟩ α H a us):VL ⟨K,π'⟩ α H a us :=
 ⟨h.1,fun z=>(s a z).elim h.2.1 (fun w=>by rw [h.2.2] at w;exact nomatch w),h.2.2⟩
theorem VE.more{K:PySem.W.Frag}{π π':List Addr}{α:List Addr}{H:Hp}{a:Addr}{u:HO}(s:∀ p ∈ π',p ∈ π\/H p=none)(h:VE ⟨K,π⟩ α H a u):VE ⟨K,π'⟩ α H a u :=
 ⟨h.1,fun z=>(s a z).elim h.2.1 (fun w=>by rw [h.2.2] at w;exact nomatch w),h.2.2⟩
theorem RelD.more{K:PySem.W.Frag}{π π':List Addr}{α:List Addr}{H:Hp}(s:∀ p ∈ π',p ∈ π\/H p=none){d:D}{v:V}(r:RelD ⟨K,π⟩ α H d v):RelD ⟨K,π'⟩ α H d v:=r.map (K:=⟨K,π⟩) (K':=⟨K,π'⟩) rfl (fun _ _ t=>t.more s) (fun _ _ t=>t.more s) (fun _ _ t=>t.more s) (fun _ _ t=>t.more s) (fun _ _ h=>h)
theorem RelDs.more{K:PySem.W.Frag}{π π':List Addr}{α:List Addr}{H:Hp}(s:∀ p ∈ π',p ∈ π\/H p=none){ds:List D}{us:List V}(r:RelDs ⟨K,π⟩ α H ds us):RelDs ⟨K,π'⟩ α H ds us:=r.map (K:=⟨K,π⟩) (K':=⟨K,π'⟩) rfl (fun _ _ t=>t.more s) (fun _ _ t=>t.more s) (fun _ _ t=>t.more s) (fun _ _ t=>t.more s) (fun _ _ h=>h)
theorem RelKV.more{K:PySem.W.Frag}{π π':List Addr}{α:List Addr}{H:Hp}{κ:Type}(s:∀ p ∈ π',p ∈ π\/H p=none){ds:List (κ×D)}{us:List (κ×V)}(r:RelKV ⟨K,π⟩ α H ds us):RelKV ⟨K,π'⟩ α H ds us:=by
 induction r with
 |nil=>exact .nil
 |cons h t ih=>exact .cons (h.more s) ih
theorem HRel.more{K:PySem.W.Frag}{π π':List Addr}{α:List Addr}{H:Hp}{h:List O}(s:∀ p ∈ π',p ∈ π\/H p=none)(d:∀ p ∈ π',p ∉ α/\NoT (H p))(R:HRel ⟨K,π⟩ α H h):HRel ⟨K,π'⟩ α H h :=
 ⟨R.len,R.nd,d,fun i o q=>by
  obtain ⟨p,ep,r⟩:=R.obj i o q;refine ⟨p,ep,?_⟩
  cases r with
  |lst h t=>exact .lst h (t.more s)
  |dT h t=>exact .dT h (t.more s)
  |dK h t=>exact .dK h (t.more s)
  |ins n h t=>exact .ins n h (t.more s)⟩
abbrev Sl:=List (Option D)
abbrev Hh:=List O
abbrev DK:=D->Hh->Prop
abbrev DE:=Sl->Hh->DK->Prop
abbrev DT:=Sl->Hh->(Bool->Hh->Prop)->Prop
abbrev DA:=Sl->Hh->(List D->Hh->Prop)->Prop
abbrev DX:=Str->List (Str×Int)->Hh->Prop
structure M0 where
 nx:Sl->Hh->Prop
 rt:DK
 bk:Sl->Hh->Prop:=fun _ _=>False
 ct:Sl->Hh->Prop:=fun _ _=>False
 ex:DX:=fun _ _ _=>False
abbrev DS:=M0->Sl->Hh->Prop
abbrev DG:=D->Sl->Hh->(Sl->Hh->Prop)->Prop
abbrev DGs:=List D->Sl->Hh->(Sl->Hh->Prop)->Prop
structure RelS(K:KP)(α:List Addr)(H:Hp)(δ:Sl)(σ:St):Prop where
 len:δ.length=σ.length
 get:∀ (i:Nat) (d:D),δ[i]?=some (some d)->∃ v,σ[i]?=some (some v)/\RelD K α H d v
theorem RelS.mono{K:KP}{α α':List Addr}{H H':Hp}{δ:Sl}{σ:St}(e:Ext α H α' H')(r:RelS K α H δ σ):RelS K α' H' δ σ :=
 ⟨r.len,fun i d q=>let ⟨v,h1,h2⟩:=r.get i d q;⟨v,h1,h2.mono e⟩⟩
theorem RelS.set{K:KP}{α:List Addr}{H:Hp}{δ:Sl}{σ:St}{d:D}{v:V}(r:RelS K α H δ σ)(i:Nat)(h:RelD K α H d v):RelS K α H (δ.set i (some d)) (σ.set i (some v)):=by
 refine ⟨by simp [r.len],fun j e q=>?_⟩
 by_cases z:i=j
 ·subst z
  have hi:i < δ.length:=by
   have:=(List.getElem?_eq_some_iff.mp q).1
   simpa using this
  rw [List.getElem?_set_self hi] at q;cases q;exact ⟨v,List.getElem?_set_self (by rw [<- r.len];exact hi),h⟩
 ·rw [List.getElem?_set_ne z] at q;obtain ⟨w,h1,h2⟩:=r.get j e q;exact ⟨w,by rw [List.getElem?_set_ne z];exact h1,h2⟩
inductive LE(K:PySem.W.Frag)(f:DE)(σ:St)(H:Hp)(Q:VK):Prop
 |mk (π:List Addr) (α:List Addr) (δ:Sl) (h:Hh) (Q':DK):HRel ⟨K,π⟩ α H h->RelS ⟨K,π⟩ α H δ σ->f δ h Q'->(∀ d h' α' H' v,Q' d h'->Ext α H α' H'->HRel ⟨K,π⟩ α' H' h'->RelD ⟨K,π⟩ α' H' d v->Q v H')->LE K f σ H Q
inductive LT(K:PySem.W.Frag)(f:DT)(σ:St)(H:Hp)(Q:Bool->Hp->Prop):Prop
 |mk (π:List Addr) (α:List Addr) (δ:Sl) (h:Hh) (Q':Bool->Hh->Prop):HRel ⟨K,π⟩ α H h->RelS ⟨K,π⟩ α H δ σ->f δ h Q'->(∀ b h' α' H',Q' b h'->Ext α H α' H'->HRel ⟨K,π⟩ α' H' h'->Q b H')->LT K f σ H Q
inductive LA(K:PySem.W.Frag)(n:Nat)(f:DA)(σ:St)(H:Hp)(Q:List V->Hp->Prop):Prop
 |mk (π:List Addr) (α:List Addr) (δ:Sl) (h:Hh) (Q':List D->Hh->Prop):HRel ⟨K,π⟩ α H h->RelS ⟨K,π⟩ α H δ σ->f δ h Q'->(∀ ds h' α' H' vs,Q' ds h'->Ext α H α' H'->HRel ⟨K,π⟩ α' H' h'->RelDs ⟨K,π⟩ α' H' ds vs->ds.length=n->Q vs H')->LA K n f σ H Q
structure EndsOk(K:KP)(Ex:XK)(α:List Addr)(H:Hp)(E:M0)(F:W6):Prop where
 nx:∀ δ' h' α' H' σ',E.nx δ' h'->Ext α H α' H'->HRel K α' H' h'->RelS K α' H' δ' σ'->F.nx σ' H'
 rt:∀ d h' α' H' v,E.rt d h'->Ext α H α' H'->HRel K α' H' h'->RelD K α' H' d v->F.rt v H'
 bk:∀ δ' h' α' H' σ',E.bk δ' h'->Ext α H α' H'->HRel K α' H' h'->RelS K α' H' δ' σ'->F.bk σ' H'
 ct:∀ δ' h' α' H' σ',E.ct δ' h'->Ext α H α' H'->HRel K α' H' h'->RelS K α' H' δ' σ'->F.ct σ' H'
 ex:∀ cn fs h' α' H' C dx,E.ex cn fs h'->Ext α H α' H'->HRel K α' H' h'->PySem.W.nsIn K.K mainGlobals cn=some (some (.ref C))->XQ K α' H' dx fs->Ex (.ref C) dx H'
theorem EndsOk.mono{K:KP}{Ex:XK}{α α':List Addr}{H H':Hp}{E:M0}{F:W6}(x:EndsOk K Ex α H E F)(e:Ext α H α' H'):EndsOk K Ex α' H' E F :=
 ⟨fun _ _ _ _ _ a b c d=>x.nx _ _ _ _ _ a (e.trans b) c d,fun _ _ _ _ _ a b c d=>x.rt _ _ _ _ _ a (e.trans b) c d,fun _ _ _ _ _ a b c d=>x.bk _ _ _ _ _ a (e.trans b) c d,fun _ _ _ _ _ a b c d=>x.ct _ _ _ _ _ a (e.trans b) c d,fun _ _ _ _ _ _ _ a b c d=>x.ex _ _ _ _ _ _ _ a (e.trans b) c d⟩
inductive LS(K:PySem.W.Frag)(Ex:XK)(f:DS)(F:W6)(σ:St)(H:Hp):Prop
 |mk (π:List Addr) (α:List Addr) (δ:Sl) (h:Hh) (E:M0):HRel ⟨K,π⟩ α H h->RelS ⟨K,π⟩ α H δ σ->f E δ h->EndsOk ⟨K,π⟩ Ex α H E F->LS K Ex f F σ H
inductive LG(K:PySem.W.Frag)(f:DG)(v:V)(σ:St)(H:Hp)(Q:St->Hp->Prop):Prop
 |mk (π:List Addr) (α:List Addr) (δ:Sl) (h:Hh) (d:D) (Q':Sl->Hh->Prop):HRel ⟨K,π⟩ α H h->RelS ⟨K,π⟩ α H δ σ->RelD ⟨K,π⟩ α H d v->f d δ h Q'->(∀ δ' h' α' H' σ',Q' δ' h'->Ext α H α' H'->HRel ⟨K,π⟩ α' H' h'->RelS ⟨K,π⟩ α' H' δ' σ'->Q σ' H')->LG K f v σ H Q
inductive LGs(K:PySem.W.Frag)(f:DGs)(vs:List V)(σ:St)(H:Hp)(Q:St->Hp->Prop):Prop
 |mk (π:List Addr) (α:List Addr) (δ:Sl) (h:Hh) (ds:List D) (Q':Sl->Hh->Prop):HRel ⟨K,π⟩ α H h->RelS ⟨K,π⟩ α H δ σ->RelDs ⟨K,π⟩ α H ds vs->f ds δ h Q'->(∀ δ' h' α' H' σ',Q' δ' h'->Ext α H α' H'->HRel ⟨K,π⟩ α' H' h'->RelS ⟨K,π⟩ α' H' δ' σ'->Q σ' H')->LGs K f vs σ H Q
theorem HRel.under{K:PySem.W.Frag}{π α:List Addr}{H:Hp}{h:Hh}{p:Addr}{o:HO}(R:HRel ⟨K,π⟩ α H h)(hp:H p=none)(ho:∀ us,o ≠ .tup us:=by intro _ z;cases z):HRel ⟨K,p :: π⟩ α (upd H p o) h:=by
 have s:∀ q ∈ p :: π,q ∈ π\/H q=none:=fun q hq=>by
  rcases List.mem_cons.mp hq with rfl | z
  ·exact .inr hp
  ·exact .inl z
 refine ⟨R.len,R.nd,fun q hq=>?_,fun i ob e=>?_⟩
 ·rcases List.mem_cons.mp hq with rfl | z
  ·exact ⟨R.out hp,by rw [l9];exact ⟨(fun z=>by cases z),fun us z=>ho us (Option.some.inj z)⟩⟩
  ·exact ⟨(R.dis q z).1,(R.dis q z).2.ext (Ext.new (α:=α) hp) (R.dis q z).1⟩
 ·obtain ⟨a,ea,r⟩:=R.obj i ob e;refine ⟨a,ea,?_⟩;have k:upd H p o a=H a:=p5 fun z=>R.out hp (z ▸ List.mem_of_getElem? ea);have e2:Ext α H α (upd H p o):=Ext.new hp
  cases r with
  |lst h t=>exact .lst (k.trans h) ((t.more s).mono e2)
  |dT h t=>exact .dT (k.trans h) ((t.more s).mono e2)
  |dK h t=>exact .dK (k.trans h) ((t.more s).mono e2)
  |ins n h t=>exact .ins n (k.trans h) ((t.more s).mono e2)
theorem HRel.less{K:PySem.W.Frag}{π α:List Addr}{H:Hp}{h:Hh}{p:Addr}(R:HRel ⟨K,p :: π⟩ α H h):HRel ⟨K,π⟩ α H h :=
 R.more (fun q hq=>.inl (List.mem_cons_of_mem _ hq)) fun q hq=>R.dis q (List.mem_cons_of_mem _ hq)
theorem RelS.more{K:PySem.W.Frag}{π π' α:List Addr}{H:Hp}{δ:Sl}{σ:L2.St}(s:∀ p ∈ π',p ∈ π\/H p=none)(S:RelS ⟨K,π⟩ α H δ σ):RelS ⟨K,π'⟩ α H δ σ :=
 ⟨S.len,fun i d q=>let ⟨v,a,b⟩:=S.get i d q;⟨v,a,b.more s⟩⟩
theorem RelS.priv{K:KP}{α:List Addr}{H H':Hp}{δ:Sl}{σ:L2.St}{D':Addr}(e:T5 D' H H')(hD:D' ∈ K.π)(S:RelS K α H δ σ):RelS K α H' δ σ :=
 ⟨S.len,fun i d q=>let ⟨v,a,b⟩:=S.get i d q;⟨v,a,b.priv e hD⟩⟩
theorem Ext.grow{α α':List Addr}{H H':Hp}{p:Addr}{o:HO}(e:Ext α H α' H')(hp:H p=none):Ext α H α' (upd H' p o) :=
 ⟨e.pre,fun b u q n=>by rw [p5 (A5 q hp)];exact e.keep b u q n,fun b q=>by
  by_cases z:b=p
  ·subst z;exact hp
  ·rw [p5 z] at q;exact e.dom b q⟩
theorem VT.adopt{K:PySem.W.Frag}{π α:List Addr}{H:Hp}{p a:Addr}{us:List V}(h:VT ⟨K,p :: π⟩ α H a us):VT ⟨K,π⟩ (α ++ [p]) H a us :=
 ⟨fun z=>(List.mem_append.mp z).elim h.1 fun z=>h.2.1 (by rw [List.mem_singleton.mp z];exact List.mem_cons_self),fun z=>h.2.1 (List.mem_cons_of_mem _ z),h.2.2⟩
theorem VS.adopt{K:PySem.W.Frag}{π α:List Addr}{H:Hp}{p a:Addr}{us:List V}(h:VS ⟨K,p :: π⟩ α H a us):VS ⟨K,π⟩ (α ++ [p]) H a us:=by
 rcases h with ⟨n,m,h⟩ | h
 ·refine .inl ⟨fun z=>?_,fun z=>m (List.mem_cons_of_mem _ z),h⟩
  rcases List.mem_append.mp z with z | z
  ·exact n z
  ·exact m (by rw [List.mem_singleton.mp z];exact List.mem_cons_self)
 ·exact .inr h
theorem VL.adopt{K:PySem.W.Frag}{π α:List Addr}{H:Hp}{p a:Addr}{us:List V}(h:VL ⟨K,p :: π⟩ α H a us):VL ⟨K,π⟩ (α ++ [p]) H a us :=
 ⟨fun z=>(List.mem_append.mp z).elim h.1 fun z=>h.2.1 (by rw [List.mem_singleton.mp z];exact List.mem_cons_self),fun z=>h.2.1 (List.mem_cons_of_mem _ z),h.2.2⟩
theorem VE.adopt{K:PySem.W.Frag}{π α:List Addr}{H:Hp}{p a:Addr}{u:HO}(h:VE ⟨K,p :: π⟩ α H a u):VE ⟨K,π⟩ (α ++ [p]) H a u :=
 ⟨fun z=>(List.mem_append.mp z).elim h.1 fun z=>h.2.1 (by rw [List.mem_singleton.mp z];exact List.mem_cons_self),fun z=>h.2.1 (List.mem_cons_of_mem _ z),h.2.2⟩
theorem a0G{α:List Addr}{p a:Addr}{i:Nat}(h:α[i]?=some a):(α ++ [p])[i]?=some a:=by
 rw [List.getElem?_append_left (List.getElem?_eq_some_iff.mp h).1];exact h
theorem RelD.adopt{K:PySem.W.Frag}{π α:List Addr}{H:Hp}{p:Addr}{d:D}{v:V}(r:RelD ⟨K,p :: π⟩ α H d v):RelD ⟨K,π⟩ (α ++ [p]) H d v:=r.map (K:=⟨K,p :: π⟩) (K':=⟨K,π⟩) (α':=α ++ [p]) (H':=H) rfl (fun _ _ t=>t.adopt) (fun _ _ t=>t.adopt) (fun _ _ t=>t.adopt) (fun _ _ t=>t.adopt) (fun _ _ h=>a0G h)
theorem RelDs.adopt{K:PySem.W.Frag}{π α:List Addr}{H:Hp}{p:Addr}{ds:List D}{us:List V}(r:RelDs ⟨K,p :: π⟩ α H ds us):RelDs ⟨K,π⟩ (α ++ [p]) H ds us:=r.map (K:=⟨K,p :: π⟩) (K':=⟨K,π⟩) (α':=α ++ [p]) (H':=H) rfl (fun _ _ t=>t.adopt) (fun _ _ t=>t.adopt) (fun _ _ t=>t.adopt) (fun _ _ t=>t.adopt) (fun _ _ h=>a0G h)
theorem RelKV.adopt{K:PySem.W.Frag}{π α:List Addr}{H:Hp}{p:Addr}{κ:Type}{ds:List (κ×D)}{us:List (κ×V)}(r:RelKV ⟨K,p :: π⟩ α H ds us):RelKV ⟨K,π⟩ (α ++ [p]) H ds us:=by
 induction r with
 |nil=>exact .nil
 |cons h t ih=>exact .cons h.adopt ih
theorem HRel.adopt{K:PySem.W.Frag}{π α:List Addr}{H:Hp}{h:Hh}{p:Addr}{u:O}(R:HRel ⟨K,p :: π⟩ α H h)(np:p ∉ π)(r:RelO' ⟨K,π⟩ (α ++ [p]) H p u):HRel ⟨K,π⟩ (α ++ [p]) H (h ++ [u]):=by
 have hp:=R.dis p List.mem_cons_self;refine ⟨by simp [R.len],?_,fun q hq=>⟨fun z=>?_,(R.dis q (List.mem_cons_of_mem _ hq)).2⟩,fun i v q=>?_⟩
 ·rw [List.nodup_append];exact ⟨R.nd,by simp,fun a ha b hb=>by rw [List.mem_singleton.mp hb];exact fun z=>hp.1 (z ▸ ha)⟩
 ·rcases List.mem_append.mp z with z | z
  ·exact (R.dis q (List.mem_cons_of_mem _ hq)).1 z
  ·rw [List.mem_singleton.mp z] at hq;exact np hq
 ·by_cases hi:i < h.length
  ·rw [List.getElem?_append_left hi] at q;obtain ⟨a,ea,ra⟩:=R.obj i v q;refine ⟨a,a0G ea,?_⟩
   cases ra with
   |lst h t=>exact .lst h t.adopt
   |dT h t=>exact .dT h t.adopt
   |dK h t=>exact .dK h t.adopt
   |ins n h t=>exact .ins n h t.adopt
  ·have hi':i=h.length:=by
    have:=(List.getElem?_eq_some_iff.mp q).1
    rw [List.length_append,List.length_singleton] at this;omega
   subst hi';rw [List.getElem?_append_right (Nat.le_refl _)] at q
   simp at q;subst q;exact ⟨p,by rw [List.getElem?_append_right (by rw [R.len];exact Nat.le_refl _),R.len];simp,r⟩
theorem Ext.adopt{α α':List Addr}{H H':Hp}{p:Addr}(e:Ext α H α' H')(hp:H p=none):Ext α H (α' ++ [p]) H':=by
 refine ⟨?_,e.keep,e.dom⟩;obtain ⟨⟨β,rfl,hb⟩,_⟩:=e
 exact ⟨β ++ [p],by simp,fun q hq=>by
  rcases List.mem_append.mp hq with z | z
  ·exact hb q z
  ·rw [List.mem_singleton.mp z];exact hp⟩
section
variable (X:Cx)
def SE(e:Expr)(f:DE):Prop:=PE X e (LE X.K f)
def ST(e:Expr)(f:DT):Prop:=PT X e (LT X.K f)
def SW(e:Expr)(f:DT):Prop:=PW X e (LT X.K f)
def SA(es:List Expr)(n:Nat)(f:DA):Prop:=PA X es (LA X.K n f)
def SS(s:Stmt)(f:DS):Prop:=PS X s (LS X.K X.ex9 f)
def SSs(ss:List Stmt)(f:DS):Prop:=PSs X ss (LS X.K X.ex9 f)
def SG(t:Expr)(f:DG):Prop:=PG X t (LG X.K f)
def SGs(ts:List Expr)(f:DGs):Prop:=PGs X ts (LGs X.K f)
end
section
variable {X:Cx}
theorem PE.imp{e:Expr}{t t':TE}(h:PE X e t)(k:∀ σ H Q,t' σ H Q->t σ H Q):PE X e t':=fun pins s σ H Q I q=>h pins s σ H Q I (k σ H Q q)
theorem PT.imp{e:Expr}{t t':TT}(h:PT X e t)(k:∀ σ H Q,t' σ H Q->t σ H Q):PT X e t':=fun pins s σ H Q I q=>h pins s σ H Q I (k σ H Q q)
theorem PW.imp{e:Expr}{t t':TT}(h:PW X e t)(k:∀ σ H Q,t' σ H Q->t σ H Q):PW X e t':=fun wh pins s σ H Q I q=>h wh pins s σ H Q I (k σ H Q q)
theorem PA.imp{es:List Expr}{t t':TA}(h:PA X es t)(k:∀ σ H Q,t' σ H Q->t σ H Q):PA X es t':=fun pos pins s σ H Q I q=>h pos pins s σ H Q I (k σ H Q q)
theorem PS.imp{e:Stmt}{t t':TS}(h:PS X e t)(k:∀ F σ H,t' F σ H->t F σ H):PS X e t':=fun pins s σ H F I q=>h pins s σ H F I (k F σ H q)
theorem PSs.imp{e:List Stmt}{t t':TS}(h:PSs X e t)(k:∀ F σ H,t' F σ H->t F σ H):PSs X e t':=fun pins s σ H F I q=>h pins s σ H F I (k F σ H q)
theorem PG.imp{e:Expr}{t t':TG}(h:PG X e t)(k:∀ v σ H Q,t' v σ H Q->t v σ H Q):PG X e t':=fun pins s σ H v u Q I r q=>h pins s σ H v u Q I r (k v σ H Q q)
theorem PGs.imp{e:List Expr}{t t':TGs}(h:PGs X e t)(k:∀ v σ H Q,t' v σ H Q->t v σ H Q):PGs X e t':=fun pins s σ H v u Q I r q=>h pins s σ H v u Q I r (k v σ H Q q)
end
end DL
namespace DL
open PySem PySem.Spec L2
def b9(i:Nat):DE:=fun δ h Q=>match δ[i]? with | some (some d)=>Q d h | _=>False
def dC(d:D):DE:=fun _ h Q=>Q d h
abbrev P1:=D->Hh->DK->Prop
abbrev P2:=D->D->Hh->DK->Prop
abbrev PN:=List D->Hh->DK->Prop
def dUn(p:P1)(a:DE):DE:=fun δ h Q=>a δ h fun x h1=>p x h1 Q
def dOp(p:P2)(a b:DE):DE:=fun δ h Q=>a δ h fun x h1=>b δ h1 fun y h2=>p x y h2 Q
inductive r1(K:PySem.W.Frag)(p:P1)(x:V)(H:Hp)(Q:VK):Prop
 |mk (π:List Addr) (α:List Addr) (h:Hh) (d:D) (Q':DK):HRel ⟨K,π⟩ α H h->RelD ⟨K,π⟩ α H d x->p d h Q'->(∀ d h' α' H' v,Q' d h'->Ext α H α' H'->HRel ⟨K,π⟩ α' H' h'->RelD ⟨K,π⟩ α' H' d v->Q v H')->r1 K p x H Q
inductive r2(K:PySem.W.Frag)(p:P2)(x y:V)(H:Hp)(Q:VK):Prop
 |mk (π:List Addr) (α:List Addr) (h:Hh) (d e:D) (Q':DK):HRel ⟨K,π⟩ α H h->RelD ⟨K,π⟩ α H d x->RelD ⟨K,π⟩ α H e y->p d e h Q'->(∀ d h' α' H' v,Q' d h'->Ext α H α' H'->HRel ⟨K,π⟩ α' H' h'->RelD ⟨K,π⟩ α' H' d v->Q v H')->r2 K p x y H Q
inductive rN(K:PySem.W.Frag)(p:PN)(xs:List V)(H:Hp)(Q:VK):Prop
 |mk (π:List Addr) (α:List Addr) (h:Hh) (ds:List D) (Q':DK):HRel ⟨K,π⟩ α H h->RelDs ⟨K,π⟩ α H ds xs->p ds h Q'->(∀ d h' α' H' v,Q' d h'->Ext α H α' H'->HRel ⟨K,π⟩ α' H' h'->RelD ⟨K,π⟩ α' H' d v->Q v H')->rN K p xs H Q
section
variable {K:PySem.W.Frag} {σ:L2.St} {H:Hp} {Q:VK}
theorem b1w{p:P1}{fa:DE}(g:LE K (dUn p fa) σ H Q):LE K fa σ H fun x H1=>r1 K p x H1 Q:=by
 obtain ⟨π,α,δ,h,Q',R,S,f,k⟩:=g;exact ⟨π,α,δ,h,_,R,S,f,fun x h1 α1 H1 v1 f1 e1 R1 q1=>⟨π,α1,h1,x,Q',R1,q1,f1,fun d h' α' H' v a b c d'=>k d h' α' H' v a (e1.trans b) c d'⟩⟩
theorem U6{p:P2}{fa fb:DE}(g:LE K (dOp p fa fb) σ H Q):LE K fa σ H fun x H1=>LE K fb σ H1 fun y H2=>r2 K p x y H2 Q:=by
 obtain ⟨π,α,δ,h,Q',R,S,f,k⟩:=g;refine ⟨π,α,δ,h,_,R,S,f,fun x h1 α1 H1 v1 f1 e1 R1 q1=>?_⟩;refine ⟨π,α1,δ,h1,_,R1,S.mono e1,f1,fun y h2 α2 H2 v2 f2 e2 R2 q2=>?_⟩;exact ⟨π,α2,h2,x,y,Q',R2,q1.mono e2,q2,f2,fun d h' α' H' v a b c d'=>k d h' α' H' v a (e1.trans (e2.trans b)) c d'⟩
end
theorem OpR.imp{X:Cx}{f:Value->Value->Sem Value}{r r':R2}(h:OpR X f r)(k:∀ x y H Q,r' x y H Q->r x y H Q):OpR X f r':=fun pins s σ H x y v u Q I rx ry q=>h pins s σ H x y v u Q I rx ry (k x y H Q q)
theorem UnR.imp{X:Cx}{f:Value->Sem Value}{r r':V->Hp->VK->Prop}(h:UnR X f r)(k:∀ x H Q,r' x H Q->r x H Q):UnR X f r':=fun pins s σ H x v Q I rx q=>h pins s σ H x v Q I rx (k x H Q q)
theorem IxR.imp{X:Cx}{r r':R2}(h:IxR X r)(k:∀ x y H Q,r' x y H Q->r x y H Q):IxR X r':=fun va sl pins s σ H x y v u Q I rx ry q=>h va sl pins s σ H x y v u Q I rx ry (k x y H Q q)
theorem CallR.imp{X:Cx}{f:Value}{r r':List V->Hp->VK->Prop}(h:CallR X f r)(k:∀ x H Q,r' x H Q->r x H Q):CallR X f r':=fun pins s σ H xs us Q I rx q=>h pins s σ H xs us Q I rx (k xs H Q q)
def A2(h:Hh):D->Option (List D)
 |.lst xs=>some xs
 |.scr xs=>some xs
 |.ref i=>match h[i]? with | some (.lst xs)=>some xs | _=>none
 |_=>none
section
variable {K:KP} {α:List Addr} {H:Hp} {h:Hh}
theorem B2(R:HRel K α H h):∀ {d:D} {v:V} {xs:List D},RelD K α H d v->A2 h d=some xs->∃ p us,v = .ref p/\SqL K.K H p us/\RelDs K α H xs us
 |_,_,_,.lst t r,e=>by cases e;exact ⟨_,_,rfl,t.sq,r⟩
 |_,_,_,.scr t r,e=>by cases e;exact ⟨_,_,rfl,t.sq,r⟩
 |_,_,xs,.ref (i:=i) hp,e=>by
  have e:(match h[i]? with | some (.lst xs)=>some xs | _=>none)=some xs:=e
  cases q:h[i]? with
  |none=>rw [q] at e;cases e
  |some o =>
   rw [q] at e
   cases o with
   |lst ys =>
    cases e;obtain ⟨p,us,e1,e2,e3⟩:=R.lst q;rw [hp] at e1;cases e1;exact ⟨_,us,rfl,SqL.of e2,e3⟩
   |_=>cases e
 |_,_,_,.non,e=>nomatch e
 |_,_,_,.bl _,e=>nomatch e
 |_,_,_,.int _,e=>nomatch e
 |_,_,_,.str _,e=>nomatch e
 |_,_,_,.tup _ _,e=>nomatch e
theorem b5Q{d:List D}{v:V}(r:RelD K α H (.tup d) v):∃ p us,v = .ref p/\SqT K.K H p us/\RelDs K α H d us:=by
 cases r with
 |tup t r=>exact ⟨_,_,rfl,t.sq,r⟩
end
section
variable {X:Cx} {a b c e:Expr} {fa fb fc:DE} {pos:Pos}
theorem sv(i:Nat){x:Str}{pos:Pos}(hN:X.N[i]?=some x:=by rfl)(hv:Vis X.env.scope x:=by trivial)(hd:(x == ("__debug__":Str))=false:=by decide)
  (hcd:(x == ("__classdict__":Str))=false:=by decide):SE X (.Name x pos) (b9 i):=PE.imp (b6G hN hv hd hcd) fun σ H Q ⟨π,α,δ,h,Q',R,S,f,k⟩=>by
 unfold b9 at f
 split at f
 ·rename_i d e;obtain ⟨v,h1,h2⟩:=S.get i d e;exact ⟨v,h1,k d h α H v f (Ext.refl ..) R h2⟩
 ·exact f.elim
theorem O9{v:V}{d:D}(r:∀ π α H,RelD ⟨X.K,π⟩ α H d v)(h:PE X e (tC v)):SE X e (dC d):=PE.imp h fun σ H Q ⟨π,α,δ,h,Q',R,S,f,k⟩=>k d h α H v f (Ext.refl ..) R (r π α H)
theorem b7{i j pos}:SE X (.Constant (.int i) j pos) (dC (.int i)):=O9 (fun _ _ _=>.int i) a6Y
theorem T3{i j pos}:SE X (.Constant (.bool i) j pos) (dC (.bl i)):=O9 (fun _ _ _=>.bl i) b7N
theorem F2{j pos}:SE X (.Constant .none j pos) (dC .non):=O9 (fun _ _ _=>.non) b6E
theorem d6{i j pos}:SE X (.Constant (.str i) j pos) (dC (.str i)):=O9 (fun _ _ _=>.str i) b6u
theorem D5{x:Str}{i:Int}(hg:Gl X x)(hm:∃ t,X.mg x=some (.int i t))(hd:(x == ("__debug__":Str))=false:=by decide):SE X (.Name x pos) (dC (.int i)):=by
 obtain ⟨t,hm⟩:=hm;exact O9 (fun _ _ _=>.int i) (a0x hg hm ⟨t,rfl⟩ hd)
theorem d7{op:Operator}{p:P2}(ho:OpR X (binaryOp op) (r2 X.K p))(ha:SE X a fa)(hb:SE X b fb):SE X (.BinOp a op b pos) (dOp p fa fb):=PE.imp (b2x ho ha hb) fun _ _ _ g=>U6 g
theorem W8{op:UnaryOp}{p:P1}(ho:UnR X (unaryOp op) (r1 X.K p))(ha:SE X a fa):SE X (.UnaryOp op a pos) (dUn p fa):=PE.imp (b9a ho ha) fun _ _ _ g=>b1w g
theorem d4{p:P2}(ho:IxR X (r2 X.K p))(ha:SE X a fa)(hb:SE X b fb)(hs:a3F b:=by exact fun _ _=>rfl):SE X (.Subscript a b pos) (dOp p fa fb):=PE.imp (b8J ho ha hb hs) fun _ _ _ g=>U6 g
theorem y4{op:CmpOp}{p:P2}(ho:OpR X (compareOp op) (r2 X.K p))(ha:SE X a fa)(hb:SE X b fb)(hm:behindInMarks op b=false:=by exact a8j _):SE X (.Compare a [op] [b] pos) (dOp p fa fb):=PE.imp (a3g ho ha hb hm) fun _ _ _ g=>U6 g
def j9(f:DE):DT:=fun δ h Q=>f δ h fun d h'=>match d with | .bl b=>Q b h' | _=>False
theorem X2{K:PySem.W.Frag}{f:DE}{σ:L2.St}{H:Hp}{Q:Bool->Hp->Prop}(g:LT K (j9 f) σ H Q):LE K f σ H fun x H'=>∃ k,x = .bl k/\Q k H':=by
 obtain ⟨π,α,δ,h,Q',R,S,f,k⟩:=g;refine ⟨π,α,δ,h,_,R,S,f,fun d h1 α1 H1 v1 f1 e1 R1 q1=>?_⟩
 cases q1 with
 |bl b=>exact ⟨b,rfl,k b h1 α1 H1 f1 e1 R1⟩
 |_=>exact f1.elim
theorem g9{op:CmpOp}{p:P2}(ho:OpR X (compareOp op) (r2 X.K p))(ha:SE X a fa)(hb:SE X b fb)(hm:behindInMarks op b=false:=by exact a8j _):ST X (.Compare a [op] [b] pos) (j9 (dOp p fa fb)):=PT.imp (a3W ho ha hb hm) fun _ _ _ g=>by
 obtain ⟨π,α,δ,h,Q',R,S,f,k⟩:=X2 g;exact U6 (Q:=fun x H'=>∃ k,x = .bl k/\_) ⟨π,α,δ,h,Q',R,S,f,k⟩
def K2(p q:P2)(a b c:DE):DE:=fun δ h Q=>a δ h fun x h1=>b δ h1 fun y h2=>p x y h2 fun z h3=>match z with
 |.bl k=>if k=true then c δ h3 fun w h4=>q y w h4 Q else Q (.bl false) h3
 |_=>False
theorem W1{K:PySem.W.Frag}{p q:P2}{σ:L2.St}{H:Hp}{Q:VK}(g:LE K (K2 p q fa fb fc) σ H Q):a2a (r2 K p) (r2 K q) (LE K fa) (LE K fb) (LE K fc) σ H Q:=by
 obtain ⟨π,α,δ,h,Q',R,S,f,k⟩:=g;refine ⟨π,α,δ,h,_,R,S,f,fun x h1 α1 H1 v1 f1 e1 R1 q1=>?_⟩;refine ⟨π,α1,δ,h1,_,R1,S.mono e1,f1,fun y h2 α2 H2 v2 f2 e2 R2 q2=>?_⟩;refine ⟨π,α2,h2,x,y,_,R2,q1.mono e2,q2,f2,fun z h3 α3 H3 v3 f3 e3 R3 q3=>?_⟩
 cases q3 with
 |bl b =>
  refine ⟨b,rfl,?_⟩
  cases b with
  |false=>exact Y2 (k _ _ _ _ _ (by simpa using f3) (e1.trans (e2.trans e3)) R3 (.bl false))
  |true =>
   have f3:fc δ h3 fun w h4=>q y w h4 Q':=by simpa using f3
   refine W7 ⟨π,α3,δ,h3,_,R3,S.mono (e1.trans (e2.trans e3)),f3,fun w h4 α4 H4 v4 f4 e4 R4 q4=>?_⟩;exact ⟨π,α4,h4,y,w,Q',R4,q2.mono (e3.trans e4),q4,f4,fun d h' α' H' v a b c d'=>k d h' α' H' v a (e1.trans (e2.trans (e3.trans (e4.trans b)))) c d'⟩
 |_=>exact f3.elim
theorem Y3{op op':CmpOp}{p q:P2}(ho:OpR X (compareOp op) (r2 X.K p))(ho':OpR X (compareOp op') (r2 X.K q))(ha:SE X a fa)(hb:SE X b fb)(hc:SE X c fc)
  (hm:lastMarks [op,op'] [b,c]=false:=by with_unfolding_all rfl):SE X (.Compare a [op,op'] [b,c] pos) (K2 p q fa fb fc):=PE.imp (a7A ho ho' ha hb hc hm) fun _ _ _ g=>W1 g
theorem a1t{op op':CmpOp}{p q:P2}(ho:OpR X (compareOp op) (r2 X.K p))(ho':OpR X (compareOp op') (r2 X.K q))(ha:SE X a fa)(hb:SE X b fb)(hc:SE X c fc)
  (hm:lastMarks [op,op'] [b,c]=false:=by with_unfolding_all rfl):ST X (.Compare a [op,op'] [b,c] pos) (j9 (K2 p q fa fb fc)):=PT.imp (a6r ho ho' ha hb hc hm) fun _ _ _ g=>by
 obtain ⟨π,α,δ,h,Q',R,S,f,k⟩:=X2 g;exact W1 (Q:=fun x H'=>∃ k,x = .bl k/\_) ⟨π,α,δ,h,Q',R,S,f,k⟩
def trD(h:Hh):D->Option Bool
 |.non=>some false
 |.bl b=>some b
 |.int i=>some (i != 0)
 |.str x=>if x.length <= 16777216 then some ((x.length:Int) != 0) else none
 |.tup xs=>some (!xs.isEmpty)
 |.lst xs=>some (!xs.isEmpty)
 |.scr xs=>some (!xs.isEmpty)
 |.ref i=>match h[i]? with | some (.lst xs)=>some (!xs.isEmpty) | _=>none
 |.exc _ _=>none
def dTr(f:DE):DT:=fun δ h Q=>f δ h fun d h'=>match trD h' d with | some b=>Q b h' | none=>False
theorem D8{K:KP}{α:List Addr}{H:Hp}{ds:List D}{us:List V}(r:RelDs K α H ds us):ds.isEmpty=us.isEmpty:=by cases r <;> rfl
theorem b7M{K:KP}{α:List Addr}{H:Hp}{h:Hh}(R:HRel K α H h){d:D}{v:V}{k:Bool}(r:RelD K α H d v)(e:trD h d=some k):b3T K.K v H k:=by
 cases r with
 |non=>cases e;exact rfl
 |bl b=>cases e;exact rfl
 |int i=>cases e;exact rfl
 |str x =>
  have e:(if x.length <= 16777216 then some ((x.length:Int) != 0) else none)=some k:=e
  split at e
  ·rename_i hl;cases e;exact ⟨by rw [sizeLine_eq];exact hl,rfl⟩
  ·cases e
 |tup t r=>cases e;exact .inr (.inl ⟨_,t.sq,by rw [D8 r]⟩)
 |lst t r=>cases e;exact .inl ⟨_,t.sq,by rw [D8 r]⟩
 |scr t r=>cases e;exact .inl ⟨_,t.sq,by rw [D8 r]⟩
 |exc _ _ _=>cases e
 |@ref i a hp =>
  have e:(match h[i]? with | some (.lst xs)=>some (!xs.isEmpty) | _=>none)=some k:=e
  cases q:h[i]? with
  |none=>rw [q] at e;cases e
  |some o =>
   rw [q] at e
   cases o with
   |lst ys =>
    cases e;obtain ⟨p,us,e1,e2,e3⟩:=R.lst q;rw [hp] at e1;cases e1;exact .inl ⟨us,SqL.of e2,by rw [D8 e3]⟩
   |_=>cases e
theorem o0(ha:SE X a fa)(he:∀ whole,isTrue a X.env whole=(do let v <- whole;standAt a.pos;holding [v] (truthy v)):=by intro _;rfl):ST X a (dTr fa):=PT.imp (a6B ha he) fun σ H Q zz0=>by
 obtain ⟨π,α,δ,h,Q',R,S,f,k⟩:=zz0;refine ⟨π,α,δ,h,_,R,S,f,fun d h1 α1 H1 v1 f1 e1 R1 q1=>?_⟩
 cases q:trD h1 d with
 |none=>rw [q] at f1;exact f1.elim
 |some b=>rw [q] at f1;exact ⟨b,b7M R1 q1 q,k b h1 α1 H1 f1 e1 R1⟩
def F5(t u:DT):DT:=fun δ h Q=>t δ h fun c h1=>if c=true then u δ h1 Q else Q false h1
def dOr(t u:DT):DT:=fun δ h Q=>t δ h fun c h1=>if c=true then Q true h1 else u δ h1 Q
def Y6(t:DT):DT:=fun δ h Q=>t δ h fun c h1=>Q (!c) h1
variable {ga gb:DT} {rest:List Expr}
theorem y7(ha:ST X a ga):SW X (.BoolOp .And [a] pos) ga:=a9G ha
theorem M6(ha:ST X a ga):SW X (.BoolOp .Or [a] pos) ga:=b6e ha
theorem u8(ha:ST X a ga)(hb:SW X (.BoolOp .And (b :: rest) pos) gb):SW X (.BoolOp .And (a :: b :: rest) pos) (F5 ga gb):=PW.imp (b4w ha hb) fun σ H Q zz0=>by
 obtain ⟨π,α,δ,h,Q',R,S,f,k⟩:=zz0;refine ⟨π,α,δ,h,_,R,S,f,fun c h1 α1 H1 f1 e1 R1=>?_⟩
 cases c with
 |true=>exact W7 ⟨π,α1,δ,h1,Q',R1,S.mono e1,by simpa using f1,fun b h' α' H' a e c=>k b h' α' H' a (e1.trans e) c⟩
 |false=>exact Y2 (k false h1 α1 H1 (by simpa using f1) e1 R1)
theorem S5(ha:ST X a ga)(hb:SW X (.BoolOp .Or (b :: rest) pos) gb):SW X (.BoolOp .Or (a :: b :: rest) pos) (dOr ga gb):=PW.imp (b7t ha hb) fun σ H Q zz0=>by
 obtain ⟨π,α,δ,h,Q',R,S,f,k⟩:=zz0;refine ⟨π,α,δ,h,_,R,S,f,fun c h1 α1 H1 f1 e1 R1=>?_⟩
 cases c with
 |true=>exact W7 (k true h1 α1 H1 (by simpa using f1) e1 R1)
 |false=>exact Y2 ⟨π,α1,δ,h1,Q',R1,S.mono e1,by simpa using f1,fun b h' α' H' a e c=>k b h' α' H' a (e1.trans e) c⟩
theorem F7(h:SW X e ga):ST X e ga:=PW.pt h
theorem J0(ha:ST X a ga):ST X (.UnaryOp .Not a pos) (Y6 ga):=PT.imp (b3M ha) fun σ H Q ⟨π,α,δ,h,Q',R,S,f,k⟩=>⟨π,α,δ,h,_,R,S,f,fun c h1 α1 H1 f1 e1 R1=>k (!c) h1 α1 H1 f1 e1 R1⟩
def F8(a b:DE):DE:=fun δ h Q=>a δ h fun x h1=>match x with | .bl k=>if k=true then b δ h1 Q else Q (.bl false) h1 | _=>False
def c1w(a b:DE):DE:=fun δ h Q=>a δ h fun x h1=>match x with | .bl k=>if k=true then Q (.bl true) h1 else b δ h1 Q | _=>False
def c0N(a:DE):DE:=fun δ h Q=>a δ h fun x h1=>match x with | .bl b=>Q (.bl (!b)) h1 | _=>False
theorem X8{op}(h:SE X a fa):SE X (.BoolOp op [a] pos) fa:=b5x h
theorem C0(ha:SE X a fa)(hb:SE X (.BoolOp .And (b :: rest) pos) fb):SE X (.BoolOp .And (a :: b :: rest) pos) (F8 fa fb):=PE.imp (b5F ha hb) fun σ H Q zz0=>by
 obtain ⟨π,α,δ,h,Q',R,S,f,k⟩:=zz0;refine ⟨π,α,δ,h,_,R,S,f,fun x h1 α1 H1 v1 f1 e1 R1 q1=>?_⟩
 cases q1 with
 |bl c =>
  refine ⟨c,rfl,?_⟩
  cases c with
  |true=>exact W7 ⟨π,α1,δ,h1,Q',R1,S.mono e1,by simpa using f1,fun d h' α' H' v a e c d'=>k d h' α' H' v a (e1.trans e) c d'⟩
  |false=>exact Y2 (k _ h1 α1 H1 _ (by simpa using f1) e1 R1 (.bl false))
 |_=>exact f1.elim
def dIf(t:DT)(a b:DE):DE:=fun δ h Q=>t δ h fun c h1=>if c=true then a δ h1 Q else b δ h1 Q
theorem a7g(hc:ST X c ga)(ha:SE X a fa)(hb:SE X b fb):SE X (.IfExp c a b pos) (dIf ga fa fb):=PE.imp (a7x hc ha hb) fun σ H Q zz0=>by
 obtain ⟨π,α,δ,h,Q',R,S,f,k⟩:=zz0;refine ⟨π,α,δ,h,_,R,S,f,fun c h1 α1 H1 f1 e1 R1=>?_⟩
 cases c with
 |true=>exact W7 ⟨π,α1,δ,h1,Q',R1,S.mono e1,by simpa using f1,fun d h' α' H' v a e c d'=>k d h' α' H' v a (e1.trans e) c d'⟩
 |false=>exact Y2 ⟨π,α1,δ,h1,Q',R1,S.mono e1,by simpa using f1,fun d h' α' H' v a e c d'=>k d h' α' H' v a (e1.trans e) c d'⟩
def d2:DA:=fun _ h Q=>Q [] h
def b0(a:DE)(r:DA):DA:=fun δ h Q=>a δ h fun x h1=>r δ h1 fun xs h2=>Q (x :: xs) h2
variable {es:List Expr} {n:Nat} {fs:DA}
theorem c6:SA X [] 0 d2:=PA.imp a0R fun σ H Q ⟨π,α,δ,h,Q',R,S,f,k⟩=>k [] h α H [] f (Ext.refl ..) R .nil rfl
theorem a9(ha:SE X e fa)(hr:SA X es n fs)(hs:starEach (e :: es) X.env=(false,eval e X.env) :: starEach es X.env:=by rfl):SA X (e :: es) (n + 1) (b0 fa fs):=PA.imp (P7 ha hr hs) fun σ H Q zz0=>by
 obtain ⟨π,α,δ,h,Q',R,S,f,k⟩:=zz0;refine ⟨π,α,δ,h,_,R,S,f,fun x h1 α1 H1 v1 f1 e1 R1 q1=>?_⟩;refine ⟨π,α1,δ,h1,_,R1,S.mono e1,f1,fun ds h2 α2 H2 vs f2 e2 R2 q2 l2=>?_⟩;exact k (x :: ds) h2 α2 H2 (v1 :: vs) f2 (e1.trans e2) R2 (.cons (q1.mono e2) q2) (by rw [List.length_cons,l2])
def A0(f:DA):DE:=fun δ h Q=>f δ h fun ds h1=>Q (.tup ds) h1
theorem o6{x1}(hf:SA X es n fs)(hn:n <= sizeLine:=by decide):SE X (.Tuple es x1 pos) (A0 fs):=PE.imp (b4Z hf) fun σ H Q zz0=>by
 obtain ⟨π,α,δ,h,Q',R,S,f,k⟩:=zz0;refine ⟨π,α,δ,h,_,R,S,f,fun ds h1 α1 H1 vs f1 e1 R1 q1 l1=>⟨by rw [<- q1.length,l1];exact hn,fun p hp=>?_⟩⟩;have e2:Ext α1 H1 α1 (upd H1 p (.tup vs)):=Ext.new hp;exact k (.tup ds) h1 α1 _ _ f1 (e1.trans e2) (R1.new hp) (.tup ⟨R1.out hp,R1.outP hp,l9⟩ (q1.mono e2))
abbrev DN:=Sl->Hh->(List D->Hh->Prop)->Prop
inductive LN(K:PySem.W.Frag)(f:DN)(σ:St)(H:Hp)(Q:VK):Prop
 |mk (π:List Addr) (α:List Addr) (δ:Sl) (h:Hh) (Q':List D->Hh->Prop):HRel ⟨K,π⟩ α H h->RelS ⟨K,π⟩ α H δ σ->f δ h Q'->(∀ ds h' α' H' us p,Q' ds h'->Ext α H α' H'->HRel ⟨K,p :: π⟩ α' H' h'->RelDs ⟨K,p :: π⟩ α' H' ds us->H' p=some (.lst us)->H p=none->p ∉ π->Q (.ref p) H')->LN K f σ H Q
theorem LN.last{K:PySem.W.Frag}{π α α':List Addr}{H H':Hp}{h h':Hh}{Q:VK}{Q':List D->Hh->Prop}(k:∀ ds h' α' H' us p,Q' ds h'->Ext α H α' H'->HRel ⟨K,p :: π⟩ α' H' h'->RelDs ⟨K,p :: π⟩ α' H' ds us->H' p=some (.lst us)->H p=none->p ∉ π->Q (.ref p) H')
  {ds:List D} {us:List V} {p:Addr} (f:Q' ds h') (e:Ext α H α' H') (R:HRel ⟨K,π⟩ α' H' h') (r:RelDs ⟨K,π⟩ α' H' ds us) (hp:H' p=none):Q (.ref p) (upd H' p (.lst us)):=by
 have e2:Ext α' H' α' (upd H' p (.lst us)):=Ext.new hp;refine k ds h' α' _ us p f (e.trans e2) (R.under hp) ((r.more fun q hq=>?_).mono e2) l9 (e.dom p hp) (R.outP hp)
 rcases List.mem_cons.mp hq with rfl | z
 ·exact .inr hp
 ·exact .inl z
def SN(X:Cx)(e:Expr)(f:DN):Prop:=PE X e (LN X.K f)
def dV(f:DN):DE:=fun δ h Q=>f δ h fun ds h'=>Q (.lst ds) h'
def dTk(f:DN):DE:=fun δ h Q=>f δ h fun ds h'=>Q (.ref h'.length) (h' ++ [.lst ds])
variable {fn:DN}
theorem p4(hf:SN X e fn):SE X e (dV fn):=PE.imp hf fun σ H Q zz0=>by
 obtain ⟨π,α,δ,h,Q',R,S,f,k⟩:=zz0;refine ⟨π,α,δ,h,_,R,S,f,fun ds h1 α1 H1 us p f1 e1 R1 q1 hus hp np=>?_⟩;exact k (.lst ds) h1 α1 _ _ f1 e1 R1.less (.lst ⟨(R1.dis p List.mem_cons_self).1,np,hus⟩ (q1.more fun q hq=>.inl (List.mem_cons_of_mem _ hq)))
theorem J4(hf:SN X e fn):SE X e (dTk fn):=PE.imp hf fun σ H Q zz0=>by
 obtain ⟨π,α,δ,h,Q',R,S,f,k⟩:=zz0;refine ⟨π,α,δ,h,_,R,S,f,fun ds h1 α1 H1 us p f1 e1 R1 q1 hus hp np=>?_⟩;refine k (.ref h1.length) (h1 ++ [.lst ds]) (α1 ++ [p]) _ _ f1 (e1.adopt hp) (R1.adopt np (.lst hus q1.adopt)) (.ref ?_);rw [<- R1.len];simp
theorem j5(hf:SA X es n fs)(hn:n <= sizeLine:=by decide):SN X (.List es pos) fs:=PE.imp (b6I hf) fun σ H Q zz0=>by
 obtain ⟨π,α,δ,h,Q',R,S,f,k⟩:=zz0;refine ⟨π,α,δ,h,_,R,S,f,fun ds h1 α1 H1 vs f1 e1 R1 q1 l1=>⟨by rw [<- q1.length,l1];exact hn,fun p hp=>?_⟩⟩;exact LN.last (h:=h) k f1 e1 R1 q1 hp
end
end DL
namespace DL
open PySem PySem.Spec L2
section
variable {X:Cx}
def pI(C:Int->Int->Prop)(g:Int->Int->Int):P2:=fun x y h Q=>match x,y with | .int i,.int j=>C i j/\Q (.int (g i j)) h | _,_=>False
def pI0(g:Int->Int->Int):P2:=fun x y h Q=>match x,y with | .int i,.int j=>Q (.int (g i j)) h | _,_=>False
def pB0(g:Int->Int->Bool):P2:=fun x y h Q=>match x,y with | .int i,.int j=>Q (.bl (g i j)) h | _,_=>False
theorem a3B{f:Value->Value->Sem Value}{C:Int->Int->Prop}{g:Int->Int->Int}(h:OpR X f (rI C fun i j=>.int (g i j))):OpR X f (r2 X.K (pI C g)):=OpR.imp h fun x y H Q zz0=>by
 obtain ⟨π,α,h,d,e,Q',R,r1,r2,f,k⟩:=zz0
 cases r1 with
 |int i =>
  cases r2 with
  |int j=>exact ⟨i,j,rfl,rfl,f.1,k _ h α H _ f.2 (Ext.refl ..) R (.int _)⟩
  |_=>exact f.elim
 |_=>exact f.elim
theorem a6d{f:Value->Value->Sem Value}{g:Int->Int->Int}(h:OpR X f (rI0 fun i j=>.int (g i j))):OpR X f (r2 X.K (pI0 g)):=OpR.imp h fun x y H Q zz0=>by
 obtain ⟨π,α,h,d,e,Q',R,r1,r2,f,k⟩:=zz0
 cases r1 with
 |int i =>
  cases r2 with
  |int j=>exact ⟨i,j,rfl,rfl,k _ h α H _ f (Ext.refl ..) R (.int _)⟩
  |_=>exact f.elim
 |_=>exact f.elim
theorem a0U{f:Value->Value->Sem Value}{g:Int->Int->Bool}(h:OpR X f (rI0 fun i j=>.bl (g i j))):OpR X f (r2 X.K (pB0 g)):=OpR.imp h fun x y H Q zz0=>by
 obtain ⟨π,α,h,d,e,Q',R,r1,r2,f,k⟩:=zz0
 cases r1 with
 |int i =>
  cases r2 with
  |int j=>exact ⟨i,j,rfl,rfl,k _ h α H _ f (Ext.refl ..) R (.bl _)⟩
  |_=>exact f.elim
 |_=>exact f.elim
abbrev T6:P2:=pI0 fun i j=>i - j
abbrev F4:P2:=pI (fun _ j=>0 < j/\j < 2 ^ 100) fun i j=>i / j
abbrev u3:P2:=pI (fun _ j=>0 < j) fun i j=>i % j
abbrev b0D:P2:=pI b7U fun i j=>i ^ j.toNat
abbrev a0L:P2:=pB0 fun i j=>decide (i < j)
abbrev pLe:P2:=pB0 fun i j=>decide (i <= j)
abbrev pGt:P2:=pB0 fun i j=>decide (j < i)
abbrev pGe:P2:=pB0 fun i j=>decide (j <= i)
theorem H9:OpR X (binaryOp .Sub) (r2 X.K T6):=a6d b6h
theorem a7D:OpR X (binaryOp .FloorDiv) (rI (fun _ j=>0 < j/\j < 2 ^ 100) fun i j=>.int (i / j)):=opI fun i j _ _ _ _ _ hc q=>by
 have e:i.fdiv j=i / j:=Int.fdiv_eq_ediv_of_nonneg i (by omega);refine PyProof.Rows.floordiv_int (by omega) (by rw [e];exact q) (.inl (PyProof.noPylong_of_log2 ?_));have h1:j.natAbs ≠ 0:=by omega
 rw [Nat.log2_lt h1]
 have h2:j.natAbs < 2 ^ 100:=by
  have:=hc.2
  omega
 exact Nat.lt_of_lt_of_le h2 (Nat.pow_le_pow_right (by decide) (by decide))
theorem u6:OpR X (binaryOp .FloorDiv) (r2 X.K F4):=a3B a7D
theorem l5:OpR X (binaryOp .Mod) (r2 X.K u3):=a3B b4N
theorem a2k:OpR X (binaryOp .Pow) (r2 X.K b0D):=a3B b4O
theorem M3:OpR X (compareOp .LtE) (r2 X.K pLe):=a0U b7D
theorem a0s:OpR X (compareOp .Gt) (r2 X.K pGt):=a0U b8R
theorem b7m:OpR X (compareOp .GtE) (r2 X.K pGe):=a0U b8F
theorem J5:OpR X (compareOp .Lt) (r2 X.K a0L):=a0U b8T
theorem a3h:OpR X (inplaceOp .Add) (r2 X.K (pI0 fun i j=>i + j)):=a6d b1H
def b7B:P2:=fun x y h Q=>match x,y with
 |.int i,.int j=>Q (.int (i + j)) h
 |.str a,.str b=>a.length + b.length <= 16777216/\Q (.str (a ++ b)) h
 |.tup a,.tup b=>a ≠ []/\a.length + b.length <= 16777216/\Q (.tup (a ++ b)) h
 |_,_=>False
theorem b5c:OpR X (binaryOp .Add) (r2 X.K b7B):=OpR.imp (op_add.or (op_add_str.or b1e)) fun x y H Q zz0=>by
 obtain ⟨π,α,h,d,e,Q',R,r1,r2,f,k⟩:=zz0
 cases r1 with
 |int i =>
  cases r2 with
  |int j=>exact .inl ⟨i,j,rfl,rfl,k _ h α H _ f (Ext.refl ..) R (.int _)⟩
  |_=>exact f.elim
 |str i =>
  cases r2 with
  |str j=>exact .inr (.inl ⟨i,j,rfl,rfl,by rw [sizeLine_eq];exact f.1,k _ h α H _ f.2 (Ext.refl ..) R (.str _)⟩)
  |_=>exact f.elim
 |@tup a us ds t r =>
  cases r2 with
  |@tup a' us' ds' t' r' =>
   obtain ⟨f1,f2,f3⟩:=f;have l1:=r.length;have l2:=r'.length;refine .inr (.inr ⟨a,a',us,us',rfl,rfl,t.sq,t'.sq,?_,by rw [sizeLine_eq,<- l1,<- l2];exact f2,fun z=>?_,fun z p hp=>?_⟩)
   ·intro z;subst z
    cases r;exact f1 rfl
   ·subst z
    cases r'
    rw [List.append_nil] at f3;exact k _ h α H _ f3 (Ext.refl ..) R (.tup t r)
   ·have e2:Ext α H α (upd H p (.tup (us ++ us'))):=Ext.new hp;exact k _ h α _ _ f3 e2 (R.new hp) (.tup ⟨R.out hp,R.outP hp,l9⟩ ((r.append r').mono e2))
  |_=>exact f.elim
 |_=>exact f.elim
def a1G:P1:=fun x h Q=>match x with | .int i=>Q (.int (-i)) h | _=>False
theorem M7:UnR X (unaryOp .USub) (r1 X.K a1G):=UnR.imp b4C fun x H Q zz0=>by
 obtain ⟨π,α,h,d,Q',R,r1,f,k⟩:=zz0
 cases r1 with
 |int i=>exact ⟨i,rfl,k _ h α H _ f (Ext.refl ..) R (.int _)⟩
 |_=>exact f.elim
def M4:D->Bool | .non=>true | _=>false
def pIs(neg:Bool):P2:=fun x y h Q=>match y with | .non=>Q (.bl (if neg then !M4 x else M4 x)) h | _=>False
theorem a0l{K:KP}{α:List Addr}{H:Hp}{d:D}{v:V}(r:RelD K α H d v):decide (v = .non)=M4 d:=by cases r <;> rfl
theorem b7O:OpR X (compareOp .Is) (r2 X.K (pIs false)):=OpR.imp b6d fun x y H Q zz0=>by
 obtain ⟨π,α,h,d,e,Q',R,r1,r2,f,k⟩:=zz0
 cases r2 with
 |non =>
  refine ⟨rfl,k _ h α H _ f (Ext.refl ..) R ?_⟩;rw [a0l r1];exact .bl _
 |_=>exact f.elim
theorem X1:OpR X (compareOp .IsNot) (r2 X.K (pIs true)):=OpR.imp b1A fun x y H Q zz0=>by
 obtain ⟨π,α,h,d,e,Q',R,r1,r2,f,k⟩:=zz0
 cases r2 with
 |non =>
  refine ⟨rfl,k _ h α H _ f (Ext.refl ..) R ?_⟩;rw [a0l r1];exact .bl _
 |_=>exact f.elim
theorem U7{K:KP}{α:List Addr}{H:Hp}{ds:List D}{us:List V}{i:Int}{d:D}(r:RelDs K α H ds us)(e:atI ds i=some d):∃ u,atI us i=some u/\RelD K α H d u:=by
 unfold atI at e ⊢;rw [<- r.length]
 cases q:ixN ds.length i with
 |none=>rw [q] at e;cases e
 |some j =>
  rw [q] at e;exact r.get e
def B6(h:Hh):D->Option (List D)
 |.lst xs=>some xs
 |.scr xs=>some xs
 |.tup xs=>some xs
 |.ref i=>match h[i]? with | some (.lst xs)=>some xs | _=>none
 |_=>none
theorem V1{K:KP}{α:List Addr}{H:Hp}{h:Hh}(R:HRel K α H h){d:D}{v:V}{xs:List D}(r:RelD K α H d v)(e:B6 h d=some xs):∃ p us,v = .ref p/\(SqL K.K H p us\/SqT K.K H p us)/\RelDs K α H xs us:=by
 by_cases z:∃ ys,d = .tup ys
 ·obtain ⟨ys,rfl⟩:=z;cases e;obtain ⟨p,us,a,b,c⟩:=b5Q r;exact ⟨p,us,a,.inr b,c⟩
 ·have e':A2 h d=some xs:=by
   cases d with
   |tup ys=>exact absurd ⟨ys,rfl⟩ z
   |lst ys=>exact e
   |scr ys=>exact e
   |ref i=>exact e
   |_=>cases e
  obtain ⟨p,us,a,b,c⟩:=B2 R r e';exact ⟨p,us,a,.inl b,c⟩
def O7(x:Str)(i:Int):Option D:=if x.length <= 16777216 then (atI x.cps.toList i).map fun c=>.str ⟨#[c]⟩ else none
def ixD(h:Hh)(x y:D):Option D:=match y with
 |.int i=>match x with
  |.tup xs=>atI xs i
  |.lst xs=>atI xs i
  |.scr xs=>atI xs i
  |.ref j=>match h[j]? with | some (.lst xs)=>atI xs i | _=>none
  |.str s=>O7 s i
  |_=>none
 |_=>none
def pIx:P2:=fun x y h Q=>match ixD h x y with | some d=>Q d h | none=>False
theorem d3:IxR X (r2 X.K pIx):=IxR.imp b4y fun x y H Q zz0=>by
 obtain ⟨π,α,h,d,e,Q',R,r1,r2,f,k⟩:=zz0;unfold pIx at f
 cases q:ixD h d e with
 |none=>rw [q] at f;exact f.elim
 |some z =>
  rw [q] at f
  cases r2 with
  |int i =>
   cases r1 with
   |@tup a us ds t r =>
    obtain ⟨u,e1,e2⟩:=U7 r q;exact .inr (.inl ⟨_,us,i,u,rfl,rfl,t.sq,e1,k _ h α H _ f (Ext.refl ..) R e2⟩)
   |@lst a us ds t r =>
    obtain ⟨u,e1,e2⟩:=U7 r q;exact .inl ⟨_,us,i,u,rfl,rfl,t.sq,e1,k _ h α H _ f (Ext.refl ..) R e2⟩
   |@scr a us ds t r =>
    obtain ⟨u,e1,e2⟩:=U7 r q;exact .inl ⟨_,us,i,u,rfl,rfl,t.sq,e1,k _ h α H _ f (Ext.refl ..) R e2⟩
   |@ref j a hp =>
    have q:(match h[j]? with | some (.lst xs)=>atI xs i | _=>none)=some z:=q
    cases w:h[j]? with
    |none=>rw [w] at q;cases q
    |some o =>
     rw [w] at q
     cases o with
     |lst ys =>
      obtain ⟨p,us,e1,e2,e3⟩:=R.lst w;rw [hp] at e1;cases e1;obtain ⟨u,e4,e5⟩:=U7 e3 q;exact .inl ⟨_,us,i,u,rfl,rfl,SqL.of e2,e4,k _ h α H _ f (Ext.refl ..) R e5⟩
     |_=>cases q
   |str s =>
    have q:O7 s i=some z:=q;unfold O7 at q
    split at q
    ·rename_i hl
     cases w:atI s.cps.toList i with
     |none=>rw [w] at q;cases q
     |some c =>
      rw [w] at q;cases q;exact .inr (.inr ⟨s,i,c,rfl,rfl,by rw [sizeLine_eq];exact hl,w,k _ h α H _ f (Ext.refl ..) R (.str _)⟩)
    ·cases q
   |_=>cases q
  |_=>cases q
end
def E8(xs:List D)(lo hi:Option Int):List D:=(xs.drop (HT.sIx xs.length 0 lo)).take (HT.sIx xs.length xs.length hi - HT.sIx xs.length 0 lo)
theorem a0V{K:KP}{α:List Addr}{H:Hp}{ds:List D}{us:List V}(r:RelDs K α H ds us)(lo hi:Option Int):RelDs K α H (E8 ds lo hi) (N8 us lo hi):=by
 unfold E8 N8;rw [r.length];exact (r.drop _).take _
abbrev DO:=Sl->Hh->(Option Int->Hh->Prop)->Prop
def u9:DO:=fun _ h Q=>Q none h
def D2(f:DE):DO:=fun δ h Q=>f δ h fun d h1=>match d with | .int i=>Q (some i) h1 | _=>False
inductive LO(K:PySem.W.Frag)(f:DO)(σ:St)(H:Hp)(Q:Option Int->Hp->Prop):Prop
 |mk (π:List Addr) (α:List Addr) (δ:Sl) (h:Hh) (Q':Option Int->Hh->Prop):HRel ⟨K,π⟩ α H h->RelS ⟨K,π⟩ α H δ σ->f δ h Q'->(∀ i h' α' H',Q' i h'->Ext α H α' H'->HRel ⟨K,π⟩ α' H' h'->Q i H')->LO K f σ H Q
def SO(X:Cx)(e:Option Expr)(f:DO):Prop:=PO X e (LO X.K f)
section
variable {X:Cx} {e:Expr} {fe:DE} {lo hi:Option Expr} {fl fh:DO} {pos p2:Pos}
theorem PO.imp{o:Option Expr}{t t':TO}(h:PO X o t)(k:∀ σ H Q,t' σ H Q->t σ H Q):PO X o t':=fun pins s σ H Q I q=>h pins s σ H Q I (k σ H Q q)
theorem y0:SO X none u9:=PO.imp a9V fun σ H Q ⟨π,α,δ,h,Q',R,S,f,k⟩=>k none h α H f (Ext.refl ..) R
theorem w9(h:SE X e fe):SO X (some e) (D2 fe):=PO.imp (a9A h) fun σ H Q zz0=>by
 obtain ⟨π,α,δ,h,Q',R,S,f,k⟩:=zz0;refine ⟨π,α,δ,h,_,R,S,f,fun d h1 α1 H1 v1 f1 e1 R1 q1=>?_⟩
 cases q1 with
 |int i=>exact ⟨i,rfl,k (some i) h1 α1 H1 f1 e1 R1⟩
 |_=>exact f1.elim
def b9M(K:PySem.W.Frag):V->Option Int->Option Int->Hp->VK->Prop:=fun x lo hi H Q=>∃ a xs,x = .ref a/\SqT K H a xs/\(N8 xs lo hi=xs->Q (.ref a) H)/\∀ p,H p=none->Q (.ref p) (upd H p (.tup (N8 xs lo hi)))
theorem sl_tupD:SlR X (b9M X.K):=by
 intro pins s σ H x v vl vu lo hi sl Q I rx hs pl pu h;obtain ⟨a,xs,rfl,hx,q1,q2⟩:=h
 by_cases hw:HT.sIx xs.length 0 lo=0/\HT.sIx xs.length xs.length hi=xs.length
 ·cases rx;obtain ⟨its,r,ht,hz⟩:=I.tuple hx;have hlen:its.toArray.size=xs.length:=by rw [List.size_toArray];exact r.length.symm
  refine ⟨"tuple",_,PyProof.Rows.slot_tuple_getitem.lookup,ht.typeIs,?_⟩
  have ec:N8 xs lo hi=xs:=by
   unfold N8;rw [hw.1,hw.2,List.drop_zero,Nat.sub_zero,List.take_length]
  exact HT.getItem_tuple_all ht hs pl pu (by rw [hlen];exact hw) ⟨.ref a,H,I,rfl,q1 ec⟩
 ·exact b5O pins s σ H (.ref a) v vl vu lo hi sl Q I rx hs pl pu ⟨a,xs,rfl,hx,hw,fun p hp=>q2 p hp⟩
def c1B(fe:DE)(fl fh:DO):DN:=fun δ h Q=>fe δ h fun d h1=>fl δ h1 fun l h2=>fh δ h2 fun u h3=>match A2 h3 d with | some xs=>Q (E8 xs l u) h3 | none=>False
end
end DL
namespace DL
open PySem PySem.Spec L2
def d5(i:Nat):DG:=fun d δ h Q=>Q (δ.set i (some d)) h
def K5:DGs:=fun ds δ h Q=>match ds with | []=>Q δ h | _=>False
def p6(t:DG)(u:DGs):DGs:=fun ds δ h Q=>match ds with | d :: r=>t d δ h fun δ' h'=>u r δ' h' Q | []=>False
def V0(n:Nat)(t:DGs):DG:=fun d δ h Q=>match d with | .tup xs=>xs.length=n/\t xs δ h Q | _=>False
section
variable {X:Cx} {pos:Pos}
theorem h6{i:Nat}{x:Str}(hN:X.N.Nodup)(hi:X.N[i]?=some x)(hx:Loc X.env.scope x)(hf:X.fn x=true\/X.env.scope.names.lookup x=some .local:=by trivial):SG X (.Name x pos) (d5 i):=PG.imp (b1D hN hi hx hf) fun v σ H Q ⟨π,α,δ,h,d,Q',R,S,r,f,k⟩ =>
 k _ h α H _ f (Ext.refl ..) R (S.set i r)
theorem B3:SGs X [] K5:=PGs.imp b1V fun vs σ H Q zz0=>by
 obtain ⟨π,α,δ,h,ds,Q',R,S,r,f,k⟩:=zz0
 cases r with
 |nil=>exact ⟨rfl,k δ h α H σ f (Ext.refl ..) R S⟩
 |cons _ _=>exact f.elim
theorem l4{e:Expr}{es:List Expr}{t:DG}{u:DGs}(h1:SG X e t)(h2:SGs X es u)(hs:(assignEach (e :: es) X.env).map (·.2)=assign e X.env :: (assignEach es X.env).map (·.2):=by rfl):SGs X (e :: es) (p6 t u):=PGs.imp (a5O h1 h2 hs) fun vs σ H Q zz0=>by
 obtain ⟨π,α,δ,h,ds,Q',R,S,r,f,k⟩:=zz0
 cases r with
 |nil=>exact f.elim
 |@cons d v ds us rd rs =>
  refine ⟨v,us,rfl,π,α,δ,h,d,_,R,S,rd,f,fun δ1 h1 α1 H1 σ1 f1 e1 R1 S1=>?_⟩;exact ⟨π,α1,δ1,h1,ds,Q',R1,S1,rs.mono e1,f1,fun δ' h' α' H' σ' a b c d'=>k δ' h' α' H' σ' a (e1.trans b) c d'⟩
theorem F0{es:List Expr}{j:Nat}{t:DGs}{n:Nat}(hc:X.calm=true)(h:SGs X es t)(hn:(assignEach es X.env).length=n:=by rfl)(hst:(assignEach es X.env).findIdx? (·.1)=none:=by rfl):SG X (.Tuple es j pos) (V0 n t):=PG.imp (b5U hc h hn hst) fun v σ H Q zz0=>by
 obtain ⟨π,α,δ,h,d,Q',R,S,r,f,k⟩:=zz0
 cases r with
 |@tup a us ds t rs=>exact ⟨a,us,rfl,t.sq,by rw [<- rs.length];exact f.1,π,α,δ,h,ds,Q',R,S,rs,f.2,k⟩
 |_=>exact f.elim
def a9Y(o i v:D)(h:Hh)(Q:Hh->Prop):Prop:=match o,i with
 |.ref j,.int k=>match h[j]? with
  |some (.lst xs)=>match ixN xs.length k with
   |some m=>Q (h.set j (.lst (xs.set m v)))
   |none=>False
  |_=>False
 |_,_=>False
def b3i(fo fi:DE):DG:=fun v δ h Q=>fo δ h fun o h1=>fi δ h1 fun i h2=>a9Y o i v h2 fun h3=>Q δ h3
theorem a5s{K:PySem.W.Frag}{π α:List Addr}{H:Hp}{h:Hh}{o i v:D}{ov iv vv:V}{Q':Hh->Prop}{Q:Hp->Prop}(R:HRel ⟨K,π⟩ α H h)(ro:RelD ⟨K,π⟩ α H o ov)(ri:RelD ⟨K,π⟩ α H i iv)(rv:RelD ⟨K,π⟩ α H v vv)(f:a9Y o i v h Q')
  (k:∀ h' H',Q' h'->Ext α H α H'->HRel ⟨K,π⟩ α H' h'->Q H'):b2t ov iv vv H Q:=by
 unfold a9Y at f
 cases ro with
 |@ref j a hp =>
  cases ri with
  |int n =>
   dsimp only at f
   cases w:h[j]? with
   |none=>rw [w] at f;exact f.elim
   |some ob =>
    rw [w] at f
    cases ob with
    |lst xs =>
     dsimp only at f;obtain ⟨p,us,e1,e2,e3⟩:=R.lst w;rw [hp] at e1;cases e1
     cases q:ixN xs.length n with
     |none=>rw [q] at f;exact f.elim
     |some m =>
      rw [q] at f;have e4:Ext α H α (upd H a (.lst (us.set m vv))):=Ext.write (List.mem_of_getElem? hp);refine ⟨a,us,n,m,rfl,rfl,e2,by rw [<- e3.length];exact q,k _ _ f e4 (R.write hp (.lst l9 ((RelDs.set rv m e3).mono e4)))⟩
    |_=>exact f.elim
  |_=>exact f.elim
 |_=>exact f.elim
theorem a9L{o i:Expr}{fo fi:DE}(ho:SE X o fo)(hi:SE X i fi)
  (ha:∀ v,assign (.Subscript o i pos) X.env v=(do
   let ov <- holding [v] (eval o X.env)
   let iv <- holding [v,ov] (eval i X.env)
   standAt pos
   holding [v,ov,iv] (setItem ov iv v)
   release [v,ov,iv] []):=by intro _;rfl):SG X (.Subscript o i pos) (b3i fo fi):=PG.imp (b5I ho hi a7E ha) fun v σ H Q ⟨π,α,δ,h,d,Q',R,S,r,f,k⟩=>by
 refine ⟨π,α,δ,h,_,R,S,f,fun o h1 α1 H1 v1 f1 e1 R1 q1=>?_⟩;refine ⟨π,α1,δ,h1,_,R1,S.mono e1,f1,fun i h2 α2 H2 v2 f2 e2 R2 q2=>?_⟩;exact a5s R2 (q1.mono e2) q2 (r.mono (e1.trans e2)) f2 fun h3 H3 f3 e3 R3=>k δ h3 α2 H3 σ f3 (e1.trans (e2.trans e3)) R3 (S.mono (e1.trans (e2.trans e3)))
end
def j2:DS:=fun E δ h=>E.nx δ h
def d9(f g:DS):DS:=fun E δ h=>f { E with nx:=g E } δ h
def Q7:DS:=fun _ _ _=>False
def b9C:DS:=fun E δ h=>E.bk δ h
def c1r:DS:=fun E δ h=>E.ct δ h
def v8(f:DE):DS:=fun E δ h=>f δ h fun _ h1=>E.nx δ h1
def j8(f:DE):DS:=fun E δ h=>f δ h E.rt
def c0B:DS:=fun E _ h=>E.rt .non h
def m5(t:DT)(f g:DS):DS:=fun E δ h=>t δ h fun c h1=>if c=true then f E δ h1 else g E δ h1
def j7(f:DE)(g:DG):DS:=fun E δ h=>f δ h fun x h1=>g x δ h1 E.nx
def b0X(i:Nat)(f:DE)(p:P2):DS:=fun E δ h=>match δ[i]? with | some (some x)=>f δ h fun y h1=>p x y h1 fun z h2=>E.nx (δ.set i (some z)) h2 | _=>False
section
variable {X:Cx} {s:Stmt} {ss:List Stmt} {f g:DS} {e:Expr} {fe:DE} {pos:Pos}
theorem a5B{K:PySem.W.Frag}{Ex:XK}{F:W6}{σ:L2.St}{H:Hp}(w:LS K Ex (d9 f g) F σ H):b8e (LS K Ex f) (LS K Ex g) F σ H:=by
 obtain ⟨π,α,δ,h,E,R,S,q,k⟩:=w;exact ⟨π,α,δ,h,{ E with nx:=g E },R,S,q,⟨fun δ' h' α' H' σ' a b c d=>⟨π,α',δ',h',E,c,d,a,k.mono b⟩,k.rt,k.bk,k.ct,k.ex⟩⟩
theorem i5:SSs X [] j2:=PSs.imp a9Z fun F σ H ⟨π,α,δ,h,E,R,S,q,k⟩=>k.nx δ h α H σ q (Ext.refl ..) R S
theorem c8(h:SS X s f):SSs X [s] f:=a9K h
theorem c7(h1:SS X s f)(h2:SSs X ss g):SSs X (s :: ss) (d9 f g):=PSs.imp (a8g h1 h2) fun _ _ _ w=>a5B w
theorem O4:SS X s Q7:=PS.imp a6F fun F σ H ⟨π,α,δ,h,E,R,S,q,k⟩=>q.elim
theorem s9(he:SE X e fe)(hs:swapsWith e none pos.line X.env=pure false:=by rfl):SS X (.Expr e pos) (v8 fe):=PS.imp (b0t he hs) fun F σ H ⟨π,α,δ,h,E,R,S,q,k⟩ =>
 ⟨π,α,δ,h,_,R,S,q,fun d h1 α1 H1 v1 f1 e1 R1 q1=>k.nx δ h1 α1 H1 σ f1 e1 R1 (S.mono e1)⟩
theorem i6(he:SE X e fe):SS X (.Return (some e) pos) (j8 fe):=PS.imp (b3Z he) fun F σ H ⟨π,α,δ,h,E,R,S,q,k⟩=>⟨π,α,δ,h,_,R,S,q,fun d h1 α1 H1 v1 f1 e1 R1 q1=>k.rt d h1 α1 H1 v1 f1 e1 R1 q1⟩
theorem m7{c:Expr}{a b:List Stmt}{t:DT}(hc:ST X c t)(ha:SSs X a f)(hb:SSs X b g):SS X (.If c a b pos) (m5 t f g):=PS.imp (b7o hc ha hb) fun F σ H zz0=>by
 obtain ⟨π,α,δ,h,E,R,S,q,k⟩:=zz0;refine ⟨π,α,δ,h,_,R,S,q,fun c h1 α1 H1 f1 e1 R1=>?_⟩
 cases c with
 |true=>exact W7 ⟨π,α1,δ,h1,E,R1,S.mono e1,by simpa using f1,k.mono e1⟩
 |false=>exact Y2 ⟨π,α1,δ,h1,E,R1,S.mono e1,by simpa using f1,k.mono e1⟩
theorem a7m{K:PySem.W.Frag}{Ex:XK}{tg:DG}{F:W6}{σ:L2.St}{H:Hp}(w:LS K Ex (j7 fe tg) F σ H):a7f (LE K fe) (LG K tg) F σ H:=by
 obtain ⟨π,α,δ,h,E,R,S,q,k⟩:=w;refine ⟨π,α,δ,h,_,R,S,q,fun d h1 α1 H1 v1 f1 e1 R1 q1=>?_⟩;exact ⟨π,α1,δ,h1,d,E.nx,R1,S.mono e1,q1,f1,fun δ' h' α' H' σ' a b c d'=>k.nx δ' h' α' H' σ' a (e1.trans b) c d'⟩
theorem b7C{tg:Expr}{t:DG}(he:SE X e fe)(hg:SG X tg t)(hs:swapsWithSole [tg] e pos.line X.env=pure false:=by rfl)(hw:swappedStores [tg] e X.env=pure none:=by rfl)
  (h1:(assignEach [tg] X.env).map (·.2)=[assign tg X.env]:=by rfl):SS X (.Assign [tg] e pos) (j7 fe t):=PS.imp (b5g he hg hs hw h1) fun _ _ _ w=>a7m w
theorem a4n{K:PySem.W.Frag}{Ex:XK}{i:Nat}{F:W6}{σ:L2.St}{H:Hp}(w:LS K Ex (j7 fe (d5 i)) F σ H):a7f (LE K fe) (a0k i) F σ H:=by
 obtain ⟨π,α,δ,h,E,R,S,q,k⟩:=w;exact ⟨π,α,δ,h,_,R,S,q,fun d h1 α1 H1 v1 f1 e1 R1 q1=>k.nx _ h1 α1 H1 _ f1 e1 R1 ((S.mono e1).set i q1)⟩
theorem i9{i:Nat}{x:Str}{pos':Pos}(hN:X.N.Nodup)(hi:X.N[i]?=some x)(hx:Loc X.env.scope x)(he:SE X e fe)(hs:swapsWith e (some (.Name x pos')) pos.line X.env=pure false:=by rfl)(hf:X.fn x=true\/X.env.scope.names.lookup x=some .local:=by trivial) :
  SS X (.Assign [.Name x pos'] e pos) (j7 fe (d5 i)):=PS.imp (b3B hN hi hx he hs hf) fun _ _ _ w=>a4n w
theorem b3n{i:Nat}{x:Str}{op:Operator}{p:P2}{pos':Pos}(hN:X.N.Nodup)(hi:X.N[i]?=some x)(hx:Loc X.env.scope x)(he:SE X e fe)(ho:OpR X (inplaceOp op) (r2 X.K p))(hf:X.fn x=true\/X.env.scope.names.lookup x=some .local:=by trivial) :
  SS X (.AugAssign (.Name x pos') op e pos) (b0X i fe p):=PS.imp (b5v hN hi hx he ho hf) fun F σ H ⟨π,α,δ,h,E,R,S,q,k⟩=>by
 unfold b0X at q
 split at q
 ·rename_i d w;obtain ⟨v,h1,h2⟩:=S.get i d w;refine ⟨v,h1,π,α,δ,h,_,R,S,q,fun y h1 α1 H1 v1 f1 e1 R1 q1=>?_⟩;exact ⟨π,α1,h1,d,y,_,R1,h2.mono e1,q1,f1,fun z h2 α2 H2 v2 f2 e2 R2 q2=>k.nx _ h2 α2 H2 _ f2 (e1.trans e2) R2 ((S.mono (e1.trans e2)).set i q2)⟩
 ·exact q.elim
def c0W(fo fi fe:DE)(p:P2):DS:=fun E δ h=>fo δ h fun o h1=>fi δ h1 fun i h2=>match o,i with
 |.ref j,.int n=>0 <= n/\match h2[j]? with
  |some (.lst xs)=>match xs[n.toNat]? with
   |some x=>fe δ h2 fun y h3=>p x y h3 fun z h4=>a9Y o i z h4 fun h5=>E.nx δ h5
   |none=>False
  |_=>False
 |_,_=>False
end
def whN(t:DT)(b:DS)(E:M0):Nat->Sl->Hh->Prop
 |0,_,_=>False
 |n + 1,δ,h=>t δ h fun c h1=>if c=true then b { E with nx:=whN t b E n,ct:=whN t b E n,bk:=E.nx } δ h1 else E.nx δ h1
def a2c(t:DT)(b:DS):DS:=fun E δ h=>∃ n,whN t b E n δ h
theorem b0G{X:Cx}{c:Expr}{body:List Stmt}{t:DT}{b:DS}{pos:Pos}(hp:PassesOwn (model X.prog X.w) X.A X.env X.xe)(hc:ST X c t)(hb:SSs X body b):SS X (.While c body [] pos) (a2c t b):=PS.imp (a7Q hp hc hb) fun F σ H zz0=>by
 obtain ⟨π,α,δ,h,E,R,S,q,k⟩:=zz0;obtain ⟨n,q⟩:=q;refine ⟨fun m σ' H'=>∃ α' δ' h',Ext α H α' H'/\HRel ⟨X.K,π⟩ α' H' h'/\RelS ⟨X.K,π⟩ α' H' δ' σ'/\whN t b E m δ' h',⟨n,α,δ,h,Ext.refl ..,R,S,q⟩,?_⟩
 rintro m σ' H' ⟨α',δ',h',e',R',S',q'⟩
 cases m with
 |zero=>exact q'.elim
 |succ m =>
  refine ⟨π,α',δ',h',_,R',S',q',fun c h1 α1 H1 f1 e1 R1=>?_⟩
  cases c with
  |false=>exact Y2 (k.nx δ' h1 α1 H1 σ' (by simpa using f1) (e'.trans e1) R1 (S'.mono e1))
  |true =>
   refine W7 ⟨fun σ2 H2=>∃ α2 δ2 h2,Ext α H α2 H2/\HRel ⟨X.K,π⟩ α2 H2 h2/\RelS ⟨X.K,π⟩ α2 H2 δ2 σ2/\whN t b E m δ2 h2,fun σ2 H2 z=>⟨m,Nat.lt_succ_self m,z⟩,?_⟩;have f1:b { E with nx:=whN t b E m,ct:=whN t b E m,bk:=E.nx } δ' h1:=by simpa using f1
   have k1:=k.mono (e'.trans e1);exact ⟨π,α1,δ',h1,_,R1,S'.mono e1,f1,⟨fun δ2 h2 α2 H2 σ2 a b c d=>⟨α2,δ2,h2,e'.trans (e1.trans b),c,d,a⟩,k1.rt,k1.nx,fun δ2 h2 α2 H2 σ2 a b c d=>⟨α2,δ2,h2,e'.trans (e1.trans b),c,d,a⟩,k1.ex⟩⟩
structure Src where
 items:List D
 w:List (Nat×O)
def Src.ok(S:Src)(h:Hh):Prop:=∀ p ∈ S.w,h[p.1]?=some p.2
theorem Src.ok_nil{xs:List D}{h:Hh}:(Src.mk xs []).ok h:=fun p hp=>nomatch hp
abbrev DI:=Sl->Hh->(Src->Hh->Prop)->Prop
structure b9P(K:KP)(J:It)(S:Src)(St:List Addr->Hp->Prop):Prop where
 keep:∀ α H α' H',St α H->Ext α H α' H'->St α' H'
 priv:∀ α H H' D,St α H->T5 D H H'->D ∈ K.π->St α H'
 item:∀ α H h i d,HRel K α H h->St α H->S.ok h->S.items[i]?=some d->J.go i H/\∀ x H',J.yld i H x H'->Ext α H α H'/\HRel K α H' h/\RelD K α H' d x
 stop:∀ α H h,HRel K α H h->St α H->S.ok h->J.stop S.items.length H
def ItA(K:PySem.W.Frag)(π:List Addr)(α:List Addr)(H:Hp)(J:It)(S:Src):Prop:=∀ π',(∀ p ∈ π',p ∈ π\/H p=none)->∃ St,b9P ⟨K,π'⟩ J S St/\St α H
inductive LI(K:PySem.W.Frag)(f:DI)(σ:St)(H:Hp)(R:It->Hp->Prop):Prop
 |mk (π:List Addr) (α:List Addr) (δ:Sl) (h:Hh) (Q':Src->Hh->Prop):HRel ⟨K,π⟩ α H h->RelS ⟨K,π⟩ α H δ σ->f δ h Q'->(∀ S h' α' H' J,Q' S h'->Ext α H α' H'->HRel ⟨K,π⟩ α' H' h'->ItA K π α' H' J S->S.ok h'->R J H')->LI K f σ H R
def SI(X:Cx)(tg iter:Expr)(f:DI):Prop:=PI X tg iter (LI X.K f)
def a2m(S:Src)(t:DG)(b:DS)(E:M0):List D->Sl->Hh->Prop
 |[],δ,h=>S.ok h/\E.nx δ h
 |x :: r,δ,h=>S.ok h/\t x δ h fun δ2 h2=>b { E with nx:=a2m S t b E r,ct:=a2m S t b E r,bk:=E.nx } δ2 h2
def C9(s:DI)(t:DG)(b:DS):DS:=fun E δ h=>s δ h fun S h1=>a2m S t b E S.items δ h1
theorem z4{X:Cx}{tg iter:Expr}{body:List Stmt}{s:DI}{t:DG}{b:DS}{pos:Pos}(hp:PassesOwn (model X.prog X.w) X.A X.env X.xe)(hc:X.calm=true)(hi:SI X tg iter s)(hg:SG X tg t)(hb:SSs X body b)
  (hs:∀ x,foldedSetIterable iter X.env x=pure x:=by intro _;rfl):SS X (.For tg iter body [] pos) (C9 s t b):=PS.imp (b6o hp hc hi hg hb hs) fun F σ H ⟨π,α,δ,h,E,R,S,q,k⟩=>by
 refine ⟨π,α,δ,h,_,R,S,q,fun Sr h1 α1 H1 J f1 e1 R1 ia ok1=>?_⟩;obtain ⟨St,io,st1⟩:=ia π (fun p z=>.inl z);refine ⟨fun i m σ' H'=>m=Sr.items.length - i/\i <= Sr.items.length/\∃ α' δ' h',Ext α H α' H'/\HRel ⟨X.K,π⟩ α' H' h'/\RelS ⟨X.K,π⟩ α' H' δ' σ'/\St α' H'/\a2m Sr t b E (Sr.items.drop i) δ' h',⟨_,rfl,Nat.zero_le _,α1,δ,h1,e1,R1,S.mono e1,st1,f1⟩,?_⟩
 rintro i m σ' H' ⟨rfl,hi,α',δ',h',e',R',S',st',q'⟩
 by_cases hlt:i < Sr.items.length
 ·rw [List.drop_eq_getElem_cons hlt] at q';obtain ⟨okh,q'⟩:=q';obtain ⟨go,yl⟩:=io.item α' H' h' i Sr.items[i] R' st' okh (List.getElem?_eq_getElem hlt);refine .inr ⟨go,fun σ2 H2=>∃ α2 δ2 h2,Ext α H α2 H2/\HRel ⟨X.K,π⟩ α2 H2 h2/\RelS ⟨X.K,π⟩ α2 H2 δ2 σ2/\St α2 H2/\a2m Sr t b E (Sr.items.drop (i + 1)) δ2 h2,fun σ2 H2 z=>⟨_,by omega,rfl,hlt,z⟩,fun x H2 y2=>?_⟩;obtain ⟨e2,R2,r2⟩:=yl x H2 y2;refine ⟨π,α',δ',h',Sr.items[i],_,R2,S'.mono e2,r2,q',fun δ3 h3 α3 H3 σ3 f3 e3 R3 S3=>?_⟩;have e4:=e'.trans (e2.trans e3);have k3:=k.mono e4;have st3:=io.keep _ _ _ _ st' (e2.trans e3);exact ⟨π,α3,δ3,h3,_,R3,S3,f3,⟨fun δ5 h5 α5 H5 σ5 a b c d=>⟨α5,δ5,h5,e4.trans b,c,d,io.keep _ _ _ _ st3 b,a⟩,k3.rt,k3.nx,fun δ5 h5 α5 H5 σ5 a b c d=>⟨α5,δ5,h5,e4.trans b,c,d,io.keep _ _ _ _ st3 b,a⟩,k3.ex⟩⟩
 ·have ei:i=Sr.items.length:=by omega
  subst ei;rw [List.drop_length] at q';exact .inl ⟨io.stop α' H' h' R' st' q'.1,k.nx δ' h' α' H' σ' q'.2 e' R' S'⟩
def V6(js:List (Option Nat))(δ:Sl):Sl:=js.map fun j=>match j with
 |some j=>(δ[j]?).getD none
 |none=>none
def L8(S:Src)(t:DG)(tf:DT)(te:DE):List D->List D->Sl->Hh->(List D->Hh->Prop)->Prop
 |[],acc,_,h,Q=>S.ok h/\Q acc h
 |x :: r,acc,δ,h,Q=>S.ok h/\t x δ h fun δ2 h2=>tf δ2 h2 fun b h3=>if b=true then te δ2 h3 fun y h4=>L8 S t tf te r (acc ++ [y]) δ2 h4 Q else L8 S t tf te r acc δ2 h3 Q
def u5(js:List (Option Nat))(s:DI)(t:DG)(tf:DT)(te:DE):DN:=fun δ h Q=>s δ h fun S h1=>S.items.length <= 16777216/\L8 S t tf te S.items [] (V6 js δ) h1 Q
theorem a4r{K:KP}{α:List Addr}{H:Hp}{δ:Sl}{σ:L2.St}(S:RelS K α H δ σ)(js:List (Option Nat)):RelS K α H (V6 js δ) (J8 js σ):=by
 refine ⟨by unfold V6 J8;simp,fun i d e=>?_⟩;unfold V6 at e;rw [List.getElem?_map] at e;unfold J8;rw [List.getElem?_map]
 cases q:js[i]? with
 |none=>rw [q] at e;cases e
 |some j =>
  rw [q] at e
  cases j with
  |none=>cases e
  |some j =>
   have e:(δ[j]?).getD none=some d:=Option.some.inj e
   cases w:δ[j]? with
   |none=>rw [w] at e;cases e
   |some z =>
    rw [w] at e;have e:z=some d:=e;subst e;obtain ⟨v,h1,h2⟩:=S.get j d w;exact ⟨v,by show some ((σ[j]?).getD none)=_;rw [h1];rfl,h2⟩
theorem Q4{K:PySem.W.Frag}{js:List (Option Nat)}{s:DI}{t:DG}{tf:DT}{te:DE}{σ:L2.St}{H:Hp}{Q:VK}(w:LN K (u5 js s t tf te) σ H Q) :
  a7S js (LI K s) (fun _ _ _=>LG K t) (fun _ _ _=>LT K tf) (fun _ _ _=>LE K te) σ H Q:=by
 obtain ⟨π,α,δ,h,Q',R,S,q,k⟩:=w;refine ⟨π,α,δ,h,_,R,S,q,fun Sr h1 α1 H1 J f1 e1 R1 ia ok1=>fun Da hD s0 H0 fp=>?_⟩;obtain ⟨hlen,f1⟩:=f1
 have sub:∀ p ∈ Da :: π,p ∈ π\/H1 p=none:=fun p hp=>by
  rcases List.mem_cons.mp hp with rfl | z
  ·exact .inr hD
  ·exact .inl z
 obtain ⟨St,io,st1⟩:=ia (Da :: π) sub;have eN:Ext α1 H1 α1 (upd H1 Da (.lst [])):=Ext.new hD;have hin:Da ∈ (KP.mk K (Da :: π)).π:=List.mem_cons_self
 refine ⟨fun i m σ' H'=>m=Sr.items.length - i/\i <= Sr.items.length/\∃ α' δ' h' acc us,Ext α1 H1 α' H'/\HRel ⟨K,Da :: π⟩ α' H' h'/\RelS ⟨K,Da :: π⟩ α' H' δ' σ'/\St α' H'/\H' Da=some (.lst us)/\RelDs ⟨K,Da :: π⟩ α' H' acc us/\acc.length <= i /\
   L8 Sr t tf te (Sr.items.drop i) acc δ' h' Q',⟨_,rfl,Nat.zero_le _,α1,V6 js δ,h1,[],[],eN,R1.under hD,(a4r ((S.mono e1).more sub) js).mono eN,io.keep _ _ _ _ st1 eN,l9,.nil,Nat.le_refl _,f1⟩,?_⟩
 rintro i m σ' H' ⟨rfl,hi,α',δ',h',acc,us,e',R',S',st',hus,ra,la,q'⟩
 have nD:Da ∉ α':=(R'.dis Da hin).1
 by_cases hlt:i < Sr.items.length
 ·rw [List.drop_eq_getElem_cons hlt] at q';obtain ⟨okh,q'⟩:=q';obtain ⟨go,yl⟩:=io.item α' H' h' i Sr.items[i] R' st' okh (List.getElem?_eq_getElem hlt);refine .inr ⟨go,fun x H2 y2=>?_⟩;obtain ⟨e2,R2,r2⟩:=yl x H2 y2;refine ⟨Da :: π,α',δ',h',Sr.items[i],_,R2,S'.mono e2,r2,q',fun δ3 h3 α3 H3 σ3 f3 e3 R3 S3=>?_⟩;refine ⟨Da :: π,α3,δ3,h3,_,R3,S3,f3,fun b h4 α4 H4 f4 e4 R4=>?_⟩;have e24:=e2.trans (e3.trans e4)
  cases b with
  |false =>
   refine Y2 ⟨_,by omega,rfl,hlt,α4,δ3,h4,acc,us,e'.trans e24,R4,S3.mono e4,io.keep _ _ _ _ st' e24,e24.keep _ _ hus nD,ra.mono e24,by omega,by simpa using f4⟩
  |true =>
   have f4:te δ3 h4 fun y h5=>L8 Sr t tf te (Sr.items.drop (i + 1)) (acc ++ [y]) δ3 h5 Q':=by simpa using f4
   refine W7 ⟨Da :: π,α4,δ3,h4,_,R4,S3.mono e4,f4,fun y h5 α5 H5 v5 f5 e5 R5 q5=>?_⟩;have e25:=e24.trans e5;have h5D:H5 Da=some (.lst us):=e25.keep _ _ hus nD;have pv:T5 Da H5 (upd H5 Da (.lst (us ++ [v5]))):=⟨fun b hb=>p5 hb⟩
   have ra5:=ra.mono e25;refine ⟨us,h5D,by rw [<- ra5.length,sizeLine_eq];omega,_,by omega,rfl,hlt,α5,δ3,h5,acc ++ [y],us ++ [v5],(e'.trans e25).grow hD,R5.priv pv hin (by rw [l9];exact ⟨(fun z=>by cases z),fun _ z=>by cases z⟩),(S3.mono (e4.trans e5)).priv pv hin,io.priv _ _ _ _ (io.keep _ _ _ _ st' e25) pv hin,l9,(ra5.snoc q5).priv pv hin,by rw [List.length_append,List.length_singleton];omega,f5⟩
 ·have ei:i=Sr.items.length:=by omega
  subst ei;rw [List.drop_length] at q';exact .inl ⟨io.stop α' H' h' R' st' q'.1,k _ h' α' H' us Da q'.2 (e1.trans e') R' ra hus (e1.dom Da hD) (R1.outP hD)⟩
def y8:DT:=fun _ h Q=>Q true h
section
variable {X:Cx} {pins:List (Addr×Obj)} {σ:L2.St} {H:Hp} {s:Shared} {N':List Str} {js:List (Option Nat)} {scope:Scope}
def SF(X:Cx)(es:List Expr)(t:DT):Prop:=PF X es (LT X.K t)
theorem PF.imp{es:List Expr}{t t':TT}(h:PF X es t)(k:∀ σ H Q,t' σ H Q->t σ H Q):PF X es t':=fun pins s σ H Q I q=>h pins s σ H Q I (k σ H Q q)
theorem u2:SF X [] y8:=PF.imp b3F fun σ H Q ⟨π,α,δ,h,Q',R,S,f,k⟩=>k true h α H f (Ext.refl ..) R
theorem a7G{c:Expr}{t:DT}(h:ST X c t):SF X [c] t:=b6b h
variable {tg iter elt:Expr} {ifs:List Expr} {pos:Pos} {sr:DI} {g:DG} {tf:DT} {te:DE}
theorem p9(hc:X.calm=true)(C:CompOk X N' js scope)(hi:SI X tg iter sr)
  (body:∀ (s0:Shared) (H0:Hp) (fp:List Addr),SG (o7 X N' scope s0 H0 fp) tg g/\SF (o7 X N' scope s0 H0 fp) ifs tf/\SE (o7 X N' scope s0 H0 fp) elt te)
  (hs:∀ x,foldedSetIterable iter X.env x=pure x:=by intro _;rfl):SN X (.ListComp elt [⟨tg,iter,ifs,0⟩] scope pos) (u5 js sr g tf te) :=
 PE.imp (b1j hc C hi (g:=fun _ _ _=>LG X.K g) (tf:=fun _ _ _=>LT X.K tf) (te:=fun _ _ _=>LE X.K te) body hs) fun _ _ _ w=>Q4 w
theorem a3A{i:Nat}{x:Str}{px cpos:Pos}(hc:X.calm=true)(C:CompOk X N' js scope)(hi:SI X tg iter sr)
  (body:∀ (s0:Shared) (H0:Hp) (fp:List Addr),SG (o7 X N' scope s0 H0 fp) tg g/\SF (o7 X N' scope s0 H0 fp) ifs tf/\SE (o7 X N' scope s0 H0 fp) elt te)
  (hN:X.N.Nodup) (hix:X.N[i]?=some x) (hx:Loc X.env.scope x)
  (hsw:swapsWith (.ListComp elt [⟨tg,iter,ifs,0⟩] scope cpos) (some (.Name x px)) pos.line X.env=pure true:=by rfl) (hf:X.fn x=true\/X.env.scope.names.lookup x=some .local:=by trivial)
  (hs:∀ x,foldedSetIterable iter X.env x=pure x:=by intro _;rfl):SS X (.Assign [.Name x px] (.ListComp elt [⟨tg,iter,ifs,0⟩] scope cpos) pos) (j7 (dV (u5 js sr g tf te)) (d5 i)) :=
 PS.imp (a2R hc C hi (g:=fun _ _ _=>LG X.K g) (tf:=fun _ _ _=>LT X.K tf) (te:=fun _ _ _=>LE X.K te) body hN hix hx hsw hf hs) fun F σ H w=>by
  obtain ⟨π,α,δ,h,E,R,S,q,k⟩:=w;exact Q4 (Q:=fun x H1=>a0k i x σ H1 F.nx) ⟨π,α,δ,h,_,R,S,q,fun ds h1 α1 H1 us p f1 e1 R1 q1 hus hp np=>k.nx _ h1 α1 H1 _ f1 e1 R1.less (((S.mono e1)).set i (.lst ⟨(R1.dis p List.mem_cons_self).1,np,hus⟩ (q1.more fun q hq=>.inl (List.mem_cons_of_mem _ hq))))⟩
theorem b2g{i:Nat}{x:Str}{px cpos:Pos}(hc:X.calm=true)(C:CompOk X N' js scope)(hi:SI X tg iter sr)
  (body:∀ (s0:Shared) (H0:Hp) (fp:List Addr),SG (o7 X N' scope s0 H0 fp) tg g/\SF (o7 X N' scope s0 H0 fp) ifs tf/\SE (o7 X N' scope s0 H0 fp) elt te)
  (hN:X.N.Nodup) (hix:X.N[i]?=some x) (hx:Loc X.env.scope x)
  (hsw:swapsWith (.ListComp elt [⟨tg,iter,ifs,0⟩] scope cpos) (some (.Name x px)) pos.line X.env=pure true:=by rfl) (hf:X.fn x=true\/X.env.scope.names.lookup x=some .local:=by trivial)
  (hs:∀ x,foldedSetIterable iter X.env x=pure x:=by intro _;rfl):SS X (.Assign [.Name x px] (.ListComp elt [⟨tg,iter,ifs,0⟩] scope cpos) pos) (j7 (dTk (u5 js sr g tf te)) (d5 i)) :=
 PS.imp (a2R hc C hi (g:=fun _ _ _=>LG X.K g) (tf:=fun _ _ _=>LT X.K tf) (te:=fun _ _ _=>LE X.K te) body hN hix hx hsw hf hs) fun F σ H w=>by
  obtain ⟨π,α,δ,h,E,R,S,q,k⟩:=w;exact Q4 (Q:=fun x H1=>a0k i x σ H1 F.nx) ⟨π,α,δ,h,_,R,S,q,fun ds h1 α1 H1 us p f1 e1 R1 q1 hus hp np=>k.nx (δ.set i (some (.ref h1.length))) (h1 ++ [.lst ds]) (α1 ++ [p]) H1 _ (by exact f1) (e1.adopt hp) (R1.adopt np (.lst hus q1.adopt)) ((S.mono (e1.adopt hp)).set i (.ref (by rw [<- R1.len];simp)))⟩
end
end DL
namespace DL
open PySem PySem.Spec L2
mutual
inductive IsP(h:Hh):D->PyData->Prop
 |non:IsP h .non .none
 |bl (b:Bool):IsP h (.bl b) (.bool b)
 |int (i:Int):IsP h (.int i) (.int i)
 |str (x:Str):IsP h (.str x) (.str x)
 |tup {ds:List D} {ps:List PyData}:a2t h ds ps->IsP h (.tup ds) (.tuple ps)
 |lst {ds:List D} {ps:List PyData}:a2t h ds ps->IsP h (.lst ds) (.list ps)
 |ref {i:Nat} {ds:List D} {ps:List PyData}:h[i]?=some (.lst ds)->a2t h ds ps->IsP h (.ref i) (.list ps)
inductive a2t(h:Hh):List D->List PyData->Prop
 |nil:a2t h [] []
 |cons {d:D} {p:PyData} {ds:List D} {ps:List PyData}:IsP h d p->a2t h ds ps->a2t h (d :: ds) (p :: ps)
end
section
variable {X:Cx} {pins:List (Addr×Obj)} {σ:L2.St} {H:Hp} {s:Shared} {π α:List Addr} {h:Hh}
theorem IsP.reads(I:Inv X pins σ H s)(R:HRel ⟨X.K,π⟩ α H h){d:D}{p:PyData}(e:IsP h d p):∀ {v:V} {u:Value},RelD ⟨X.K,π⟩ α H d v->RelV v u->∃ as,Reads s.heap u p as:=by
 refine IsP.rec (motive_1:=fun d p _=>∀ {v:V} {u:Value},RelD ⟨X.K,π⟩ α H d v->RelV v u->∃ as,Reads s.heap u p as) (motive_2:=fun ds ps _=>∀ {vs:List V} {us:List Value},RelDs ⟨X.K,π⟩ α H ds vs->Vals vs us->∃ as,ReadsAll s.heap us ps as) ?_ ?_ ?_ ?_ ?_ ?_ ?_ ?_ ?_ e
 ·intro v u q r;cases q;cases r;exact ⟨_,.none⟩
 ·intro b v u q r;cases q;cases r;exact ⟨_,.bool b⟩
 ·intro i v u q r;cases q;obtain ⟨t,rfl⟩:=r;exact ⟨_,.int i t⟩
 ·intro x v u q r;cases q;obtain ⟨t,rfl⟩:=r;exact ⟨_,.str x t⟩
 ·intro ds ps _ ih v u q0 r
  cases q0 with
  |tup t rr =>
   cases r;obtain ⟨its,rv,⟨o,q,c,n,d⟩,_⟩:=I.tuple t.sq;obtain ⟨as,ra⟩:=ih rr rv;exact ⟨_,.tuple q c d (by simpa using ra)⟩
 ·intro ds ps _ ih v u q0 r
  cases q0 with
  |lst t rr =>
   cases r;obtain ⟨its,rv,⟨o,n,q,c,_,d⟩,_⟩:=I.list t.sq;obtain ⟨as,ra⟩:=ih rr rv;exact ⟨_,.list q c d (by simpa using ra)⟩
 ·intro i ds ps hh _ ih v u q0 r
  cases q0 with
  |ref hp =>
   cases r;obtain ⟨a,us,e1,e2,e3⟩:=R.lst hh;rw [hp] at e1;cases e1;obtain ⟨its,rv,⟨o,n,q,c,_,d⟩,_⟩:=I.list (SqL.of (K:=X.K) e2);obtain ⟨as,ra⟩:=ih e3 rv;exact ⟨_,.list q c d (by simpa using ra)⟩
 ·intro vs us q r;cases q;cases r;exact ⟨_,.nil⟩
 ·intro d ds p ps _ _ ih iht vs us q r
  cases q with
  |cons rr rs =>
   cases r with
   |cons r1 r2 =>
    obtain ⟨as,ra⟩:=ih rr r1;obtain ⟨bs,rb⟩:=iht rs r2;exact ⟨_,.cons ra rb⟩
end
def eqS:D->D->Option Bool
 |.int i,.int j=>some (i == j)
 |.str a,.str b=>if PyData.strOk a && PyData.strOk b then some (a == b) else none
 |.bl a,.bl b=>some (a == b)
 |.non,.non=>some true
 |.int _,.str b=>if PyData.strOk b then some false else none
 |.str a,.int _=>if PyData.strOk a then some false else none
 |.non,.int _=>some false
 |.int _,.non=>some false
 |.non,.tup _=>none
 |_,_=>none
def pEq(neg:Bool):P2:=fun x y h Q=>match eqS x y with
 |some b=>Q (.bl (if neg then !b else b)) h
 |none=>∃ a b,IsP h x a/\IsP h y b/\SeqAt.shaped a=true/\SeqAt.shaped b=true/\Q (.bl (if neg then !PyData.eqv a b else PyData.eqv a b)) h
theorem b5K{h:Hh}{x y:D}{b:Bool}(e:eqS x y=some b):∃ p q,IsP h x p/\IsP h y q/\SeqAt.shaped p=true/\SeqAt.shaped q=true/\PyData.eqv p q=b:=by
 have si:∀ i:Int,SeqAt.shaped (.int i)=true:=fun i=>by simp [SeqAt.shaped,PyData.canLay0,PyData.depth]
 have sn:SeqAt.shaped .none=true:=by simp [SeqAt.shaped,PyData.canLay0,PyData.depth]
 have sb:∀ b:Bool,SeqAt.shaped (.bool b)=true:=fun i=>by simp [SeqAt.shaped,PyData.canLay0,PyData.depth]
 have ss:∀ x:Str,PyData.strOk x=true->SeqAt.shaped (.str x)=true:=fun x hx=>by simp [SeqAt.shaped,PyData.canLay0,PyData.depth,hx]
 cases x with
 |int i =>
  cases y with
  |int j=>cases e;exact ⟨_,_,.int _,.int _,si _,si _,rfl⟩
  |str t =>
   have e:(if PyData.strOk t=true then some false else none)=some b:=e
   by_cases q:PyData.strOk t=true
   ·rw [if_pos q] at e;cases e;exact ⟨_,_,.int _,.str _,si _,ss _ q,rfl⟩
   ·rw [if_neg q] at e;cases e
  |non=>cases e;exact ⟨_,_,.int _,.non,si _,sn,rfl⟩
  |_=>cases e
 |str a =>
  cases y with
  |int j =>
   have e:(if PyData.strOk a=true then some false else none)=some b:=e
   by_cases q:PyData.strOk a=true
   ·rw [if_pos q] at e;cases e;exact ⟨_,_,.str _,.int _,ss _ q,si _,rfl⟩
   ·rw [if_neg q] at e;cases e
  |str t =>
   have e:(if (PyData.strOk a && PyData.strOk t)=true then some (a == t) else none)=some b:=e
   by_cases q:(PyData.strOk a && PyData.strOk t)=true
   ·rw [if_pos q] at e;rw [Bool.and_eq_true] at q
    cases e;exact ⟨_,_,.str _,.str _,ss _ q.1,ss _ q.2,rfl⟩
   ·rw [if_neg q] at e;cases e
  |_=>cases e
 |bl a =>
  cases y with
  |bl c=>cases e;exact ⟨_,_,.bl _,.bl _,sb _,sb _,rfl⟩
  |_=>cases e
 |non =>
  cases y with
  |non=>cases e;exact ⟨_,_,.non,.non,sn,sn,rfl⟩
  |int j=>cases e;exact ⟨_,_,.non,.int _,sn,si _,rfl⟩
  |_=>cases e
 |_=>cases e
section
variable {X:Cx}
theorem a3d{neg:Bool}{x y:D}{h:Hh}{Q:DK}(f:pEq neg x y h Q):∃ a b,IsP h x a/\IsP h y b/\SeqAt.shaped a=true/\SeqAt.shaped b=true/\Q (.bl (if neg then !PyData.eqv a b else PyData.eqv a b)) h:=by
 unfold pEq at f
 cases q:eqS x y with
 |none=>rw [q] at f;exact f
 |some b =>
  rw [q] at f;obtain ⟨p,q,a,b',c,d,e⟩:=b5K (h:=h) q;exact ⟨p,q,a,b',c,d,by rw [e];exact f⟩
theorem j6(hu:X.A.units + 64 < cLine):OpR X (compareOp .Eq) (r2 X.K (pEq false)):=by
 intro pins s σ H x y v u Q I rx ry ⟨π,α,h,d,e,Q',R,r1,r2,f,k⟩;obtain ⟨a,b,ia,ib,sa,sb,q⟩:=a3d f;obtain ⟨as,ra⟩:=ia.reads I R r1 rx;obtain ⟨bs,rb⟩:=ib.reads I R r2 ry;exact SeqAt.compareEq_shaped ra rb sa sb hu ⟨.bl (PyData.eqv a b),H,I,rfl,k _ h α H _ q (Ext.refl ..) R (.bl _)⟩
theorem a1v(hu:X.A.units + 64 < cLine):OpR X (compareOp .NotEq) (r2 X.K (pEq true)):=by
 intro pins s σ H x y v u Q I rx ry ⟨π,α,h,d,e,Q',R,r1,r2,f,k⟩;obtain ⟨a,b,ia,ib,sa,sb,q⟩:=a3d f;obtain ⟨as,ra⟩:=ia.reads I R r1 rx;obtain ⟨bs,rb⟩:=ib.reads I R r2 ry;exact SeqAt.compareNe_shaped ra rb sa sb hu ⟨.bl (!PyData.eqv a b),H,I,rfl,k _ h α H _ q (Ext.refl ..) R (.bl _)⟩
end
structure b8D(K:KP)(Sq:Hp->List V->Prop)(xs:List D)(w:List (Nat×O))(St:List Addr->Hp->Prop):Prop where
 keep:∀ α H α' H',St α H->Ext α H α' H'->St α' H'
 priv:∀ α H H' D,St α H->T5 D H H'->D ∈ K.π->St α H'
 get:∀ α H h,HRel K α H h->St α H->(∀ p ∈ w,h[p.1]?=some p.2)->∃ us,Sq H us/\RelDs K α H xs us
def a2I(K:PySem.W.Frag)(π α:List Addr)(H:Hp)(Sq:Hp->List V->Prop)(xs:List D)(w:List (Nat×O)):Prop:=∀ π',(∀ p ∈ π',p ∈ π\/H p=none)->∃ St,b8D ⟨K,π'⟩ Sq xs w St/\St α H
def A4(h:Hh):D->Option Src
 |.tup xs=>some ⟨xs,[]⟩
 |.lst xs=>some ⟨xs,[]⟩
 |.scr xs=>some ⟨xs,[]⟩
 |.ref i=>match h[i]? with | some (.lst xs)=>some ⟨xs,[(i,.lst xs)]⟩ | _=>none
 |_=>none
theorem Z4{K:PySem.W.Frag}{π α:List Addr}{H:Hp}{h:Hh}(R:HRel ⟨K,π⟩ α H h){d:D}{v:V}{S:Src}(r:RelD ⟨K,π⟩ α H d v)(e:A4 h d=some S) :
  ∃ a,v = .ref a/\S.ok h/\(((∃ us,SqL K H a us)/\a2I K π α H (fun H us=>SqL K H a us) S.items S.w)\/((∃ us,SqT K H a us)/\a2I K π α H (fun H us=>SqT K H a us) S.items S.w)):=by
 cases r with
 |@tup a us ds t rs =>
  cases e;exact ⟨a,rfl,Src.ok_nil,.inr ⟨⟨us,t.sq⟩,fun π' s=>⟨fun α H=>VT ⟨K,π'⟩ α H a us/\RelDs ⟨K,π'⟩ α H ds us,⟨fun α H α' H' st e=>⟨st.1.mono e,st.2.mono e⟩,fun α H H' D st e hD=>⟨st.1.priv e hD,st.2.priv e hD⟩,fun α H h R st _=>⟨us,st.1.sq,st.2⟩⟩,t.more s,rs.more s⟩⟩⟩
 |@lst a us ds t rs =>
  cases e;exact ⟨a,rfl,Src.ok_nil,.inl ⟨⟨us,t.sq⟩,fun π' s=>⟨fun α H=>VL ⟨K,π'⟩ α H a us/\RelDs ⟨K,π'⟩ α H ds us,⟨fun α H α' H' st e=>⟨st.1.mono e,st.2.mono e⟩,fun α H H' D st e hD=>⟨st.1.priv e hD,st.2.priv e hD⟩,fun α H h R st _=>⟨us,st.1.sq,st.2⟩⟩,t.more s,rs.more s⟩⟩⟩
 |@scr a us ds t rs =>
  cases e;exact ⟨a,rfl,Src.ok_nil,.inl ⟨⟨us,t.sq⟩,fun π' s=>⟨fun α H=>VS ⟨K,π'⟩ α H a us/\RelDs ⟨K,π'⟩ α H ds us,⟨fun α H α' H' st e=>⟨st.1.mono e,st.2.mono e⟩,fun α H H' D st e hD=>⟨st.1.priv e hD,st.2.priv e hD⟩,fun α H h R st _=>⟨us,st.1.sq,st.2⟩⟩,t.more s,rs.more s⟩⟩⟩
 |@ref i a hp =>
  have e:(match h[i]? with | some (.lst xs)=>some (Src.mk xs [(i,.lst xs)]) | _=>none)=some S:=e
  cases q:h[i]? with
  |none=>rw [q] at e;cases e
  |some o =>
   rw [q] at e
   cases o with
   |lst xs =>
    cases e;obtain ⟨p,us,e1,e2,e3⟩:=R.lst q;rw [hp] at e1;cases e1;refine ⟨a,rfl,fun z hz=>by rw [List.mem_singleton.mp hz];exact q,.inl ⟨⟨us,SqL.of e2⟩,fun π' s=>⟨fun α H=>α[i]?=some a,⟨fun α H α' H' st e=>e.get st,fun α H H' D st e hD=>st,fun α H h R st w=>?_⟩,hp⟩⟩⟩;obtain ⟨p,us,e1,e2,e3⟩:=R.lst (w (i,.lst xs) (List.mem_singleton.mpr rfl));rw [st] at e1;cases e1;exact ⟨us,SqL.of e2,e3⟩
   |_=>cases e
 |_=>cases e
theorem a2h{K:PySem.W.Frag}{π α:List Addr}{H:Hp}{h:Hh}(R:HRel ⟨K,π⟩ α H h){d:D}{v:V}{S:Src}(r:RelD ⟨K,π⟩ α H d v)(e:A4 h d=some S)(nt:∀ ys,d ≠ .tup ys) :
  ∃ a,v = .ref a/\S.ok h/\(∃ us,SqL K H a us)/\a2I K π α H (fun H us=>SqL K H a us) S.items S.w:=by
 cases r with
 |@tup a us ds t rs=>exact absurd rfl (nt ds)
 |@lst a us ds t rs =>
  cases e;exact ⟨a,rfl,Src.ok_nil,⟨us,t.sq⟩,fun π' s=>⟨fun α H=>VL ⟨K,π'⟩ α H a us/\RelDs ⟨K,π'⟩ α H ds us,⟨fun α H α' H' st e=>⟨st.1.mono e,st.2.mono e⟩,fun α H H' D st e hD=>⟨st.1.priv e hD,st.2.priv e hD⟩,fun α H h R st _=>⟨us,st.1.sq,st.2⟩⟩,t.more s,rs.more s⟩⟩
 |@scr a us ds t rs =>
  cases e;exact ⟨a,rfl,Src.ok_nil,⟨us,t.sq⟩,fun π' s=>⟨fun α H=>VS ⟨K,π'⟩ α H a us/\RelDs ⟨K,π'⟩ α H ds us,⟨fun α H α' H' st e=>⟨st.1.mono e,st.2.mono e⟩,fun α H H' D st e hD=>⟨st.1.priv e hD,st.2.priv e hD⟩,fun α H h R st _=>⟨us,st.1.sq,st.2⟩⟩,t.more s,rs.more s⟩⟩
 |@ref i a hp =>
  have e:(match h[i]? with | some (.lst xs)=>some (Src.mk xs [(i,.lst xs)]) | _=>none)=some S:=e
  cases q:h[i]? with
  |none=>rw [q] at e;cases e
  |some o =>
   rw [q] at e
   cases o with
   |lst xs =>
    cases e;obtain ⟨p,us,e1,e2,e3⟩:=R.lst q;rw [hp] at e1;cases e1;refine ⟨a,rfl,fun z hz=>by rw [List.mem_singleton.mp hz];exact q,⟨us,SqL.of e2⟩,fun π' s=>⟨fun α H=>α[i]?=some a,⟨fun α H α' H' st e=>e.get st,fun α H H' D st e hD=>st,fun α H h R st w=>?_⟩,hp⟩⟩;obtain ⟨p,us,e1,e2,e3⟩:=R.lst (w (i,.lst xs) (List.mem_singleton.mpr rfl));rw [st] at e1;cases e1;exact ⟨us,SqL.of e2,e3⟩
   |_=>cases e
 |_=>cases e
theorem b0F{K:PySem.W.Frag}{π α:List Addr}{H:Hp}{a:Addr}{S:Src}(s:a2I K π α H (fun H us=>SqL K H a us) S.items S.w):ItA K π α H (Itl K a) S:=fun π' sub=>by
 obtain ⟨St,si,st⟩:=s π' sub;refine ⟨St,⟨si.keep,si.priv,fun α H h i d R st ok hi=>?_,fun α H h R st ok=>?_⟩,st⟩
 ·obtain ⟨us,hq,rs⟩:=si.get α H h R st ok;obtain ⟨u,hu,ru⟩:=rs.get hi;refine ⟨⟨us,u,hq,hu⟩,fun x H' ⟨e1,e2⟩=>?_⟩;subst e1
  have:=(e2 us hq).symm.trans hu
  cases this;exact ⟨Ext.refl ..,R,ru⟩
 ·obtain ⟨us,hq,rs⟩:=si.get α H h R st ok;exact ⟨us,hq,by rw [<- rs.length];exact Nat.le_refl _⟩
theorem b6x{K:PySem.W.Frag}{π α:List Addr}{H:Hp}{a:Addr}{S:Src}(s:a2I K π α H (fun H us=>SqT K H a us) S.items S.w):ItA K π α H (Itt K a) S:=fun π' sub=>by
 obtain ⟨St,si,st⟩:=s π' sub;refine ⟨St,⟨si.keep,si.priv,fun α H h i d R st ok hi=>?_,fun α H h R st ok=>?_⟩,st⟩
 ·obtain ⟨us,hq,rs⟩:=si.get α H h R st ok;obtain ⟨u,hu,ru⟩:=rs.get hi;refine ⟨⟨us,u,hq,hu⟩,fun x H' ⟨e1,e2⟩=>?_⟩;subst e1
  have:=(e2 us hq).symm.trans hu
  cases this;exact ⟨Ext.refl ..,R,ru⟩
 ·obtain ⟨us,hq,rs⟩:=si.get α H h R st ok;exact ⟨us,hq,by rw [<- rs.length];exact Nat.le_refl _⟩
def C8:Int->List D->List D
 |_,[]=>[]
 |n,x :: r=>.tup [.int n,x] :: C8 (n + 1) r
theorem L4:∀ (n:Int) (xs:List D) (i:Nat),(C8 n xs)[i]?=(xs[i]?).map fun x=>.tup [.int (n + i),x]
 |n,[],i=>by simp [C8]
 |n,x :: r,0=>by simp [C8]
 |n,x :: r,i + 1=>by
  have:=L4 (n + 1) r i
  simp only [C8,List.getElem?_cons_succ,this]
  congr 1;funext y;congr 3;push_cast;omega
theorem J1:∀ (n:Int) (xs:List D),(C8 n xs).length=xs.length
 |_,[]=>rfl
 |n,x :: r=>by simp [C8,J1 (n + 1) r]
theorem a2W{K:PySem.W.Frag}{π α:List Addr}{H:Hp}{Sq:Hp->List V->Prop}{S:Src}(s:a2I K π α H Sq S.items S.w):ItA K π α H (Ite Sq) ⟨C8 0 S.items,S.w⟩:=fun π' sub=>by
 obtain ⟨St,si,st⟩:=s π' sub;refine ⟨St,⟨si.keep,si.priv,fun α H h i d R st ok hi=>?_,fun α H h R st ok=>?_⟩,st⟩
 ·rw [L4] at hi
  cases q:S.items[i]? with
  |none=>rw [q] at hi;cases hi
  |some y =>
   rw [q] at hi;cases hi;obtain ⟨us,hq,rs⟩:=si.get α H h R st ok;obtain ⟨u,hu,ru⟩:=rs.get q;refine ⟨⟨us,u,hq,hu⟩,fun x H' ⟨T,v,e0,hT,e1,e2⟩=>?_⟩;subst e0 e1
   have:=(e2 us hq).symm.trans hu
   obtain rfl:=Option.some.inj this
   have e3:Ext α H α (upd H T (.tup [.int (i:Nat),v])):=Ext.new hT;refine ⟨e3,R.new hT,.tup ⟨R.out hT,R.outP hT,l9⟩ (.cons ?_ (.cons (ru.mono e3) .nil))⟩;rw [Int.zero_add];exact .int _
 ·obtain ⟨us,hq,rs⟩:=si.get α H h R st ok;exact ⟨us,hq,by rw [J1,rs.length]⟩
def z5(lo:Int):Nat->List D
 |0=>[]
 |n + 1=>.int lo :: z5 (lo + 1) n
theorem M5:∀ (lo:Int) (n i:Nat),(z5 lo n)[i]?=if i < n then some (.int (lo + i)) else none
 |lo,0,i=>by simp [z5]
 |lo,n + 1,0=>by simp [z5]
 |lo,n + 1,i + 1=>by
  have:=M5 (lo + 1) n i
  simp only [z5,List.getElem?_cons_succ,this,Nat.add_lt_add_iff_right];have e:lo + 1 + (i:Int)=lo + ((i + 1:Nat):Int):=by push_cast;omega
  rw [e]
theorem A3:∀ (lo:Int) (n:Nat),(z5 lo n).length=n
 |_,0=>rfl
 |lo,n + 1=>by simp [z5,A3 (lo + 1) n]
theorem a1n{K:PySem.W.Frag}{π α:List Addr}{H:Hp}{lo:Int}{n:Nat}:ItA K π α H (Itr lo n) ⟨z5 lo n,[]⟩:=fun π' sub=>by
 refine ⟨fun _ _=>True,⟨fun _ _ _ _ _ _=>trivial,fun _ _ _ _ _ _ _=>trivial,fun α H h i d R st ok hi=>?_,fun α H h R st ok=>?_⟩,trivial⟩
 ·have hi:(z5 lo n)[i]?=some d:=hi;rw [M5] at hi
  split at hi
  ·rename_i hlt;cases hi;exact ⟨hlt,fun x H' ⟨e1,e2⟩=>by subst e1 e2;exact ⟨Ext.refl ..,R,.int _⟩⟩
  ·cases hi
 ·show n <= (z5 lo n).length;rw [A3];exact Nat.le_refl _
def t9(f:DE):DI:=fun δ h Q=>f δ h fun d h1=>match A4 h1 d with | some S=>Q S h1 | none=>False
def Q2(f:DA):DI:=fun δ h Q=>f δ h fun ds h1=>match ds with | [d]=>(match A4 h1 d with | some S=>Q ⟨C8 0 S.items,S.w⟩ h1 | none=>False) | _=>False
def C3(f:DA):DI:=fun δ h Q=>f δ h fun ds h1=>match ds with
 |[.int j]=>(-(2 ^ 62) <= j/\j < 2 ^ 62)/\Q ⟨z5 0 j.toNat,[]⟩ h1
 |[.int i,.int j]=>(-(2 ^ 62) <= i/\i < 2 ^ 62/\-(2 ^ 62) <= j/\j < 2 ^ 62)/\Q ⟨z5 i (j - i).toNat,[]⟩ h1
 |_=>False
section
variable {X:Cx} {tg:Expr}
theorem PI.imp{e:Expr}{t t':TI}(h:PI X tg e t)(k:∀ σ H Q,t' σ H Q->t σ H Q):PI X tg e t':=fun pins s σ H Q I q=>h pins s σ H Q I (k σ H Q q)
def b9R(K:PySem.W.Frag)(tl:TE):TI:=fun σ H R=>tl σ H fun x H1=>∃ a,x = .ref a/\(((∃ xs,SqL K H1 a xs)/\R (Itl K a) H1)\/((∃ xs,SqT K H1 a xs)/\R (Itt K a) H1))
theorem b4M{l:Expr}{tl:TE}(hl:PE X l tl):PI X tg l (b9R X.K tl):=by
 intro pins s σ H R I h;refine thn (hl pins s σ H _ I h) fun v s1 zz0=>?_;obtain ⟨x,H1,I1,r1,q1⟩:=zz0;obtain ⟨a,e,⟨⟨xs,hq⟩,q⟩ | ⟨⟨xs,hq⟩,q⟩⟩:=q1
 ·subst e;cases r1;obtain ⟨its,rv,p,hz⟩:=I1.list hq;refine wpAny_pyIter_list p.isList ?_;refine ⟨s1.heap.objs.size,[s1.heap.objs.size],_,_,H1,rfl,I1.kept (t':=s1.toks) fun b o e=>Heap.get?_push_of_some _ e,a4x a _,⟨_,Heap.get?_push_size _ rfl,rfl,rfl⟩,fun b hb=>?_,q⟩;have e:b=s1.heap.objs.size:=by simpa using hb
  subst e;exact I1.fpOk (Nat.le_refl _) (I1.hok.fresh (Nat.le_refl _))
 ·subst e;cases r1;obtain ⟨its,rv,p,hz⟩:=I1.tuple hq;refine wpAny_pyIter_tuple (show s1.heap.IsTuple a its.toArray from p) ?_;refine ⟨s1.heap.objs.size,[s1.heap.objs.size],_,_,H1,rfl,I1.kept (t':=s1.toks) fun b o e=>Heap.get?_push_of_some _ e,a2g a _,⟨_,Heap.get?_push_size _ rfl,rfl,rfl⟩,fun b hb=>?_,q⟩;have e:b=s1.heap.objs.size:=by simpa using hb
  subst e;exact I1.fpOk (Nat.le_refl _) (I1.hok.fresh (Nat.le_refl _))
theorem o9{l:Expr}{f:DE}(hl:SE X l f):SI X tg l (t9 f):=PI.imp (b4M hl) fun σ H Q zz0=>by
 obtain ⟨π,α,δ,h,Q',R,S,f,k⟩:=zz0;refine ⟨π,α,δ,h,_,R,S,f,fun d h1 α1 H1 v1 f1 e1 R1 q1=>?_⟩
 cases q:A4 h1 d with
 |none=>rw [q] at f1;exact f1.elim
 |some Sr =>
  rw [q] at f1;obtain ⟨a,rfl,ok,⟨hu,sa⟩ | ⟨hu,sa⟩⟩:=Z4 R1 q1 q
  ·exact ⟨a,rfl,.inl ⟨hu,k Sr h1 α1 H1 _ f1 e1 R1 (b0F sa) ok⟩⟩
  ·exact ⟨a,rfl,.inr ⟨hu,k Sr h1 α1 H1 _ f1 e1 R1 (b6x sa) ok⟩⟩
def b5D(K:PySem.W.Frag)(ta:TA):TI:=fun σ H R=>ta σ H fun vs H1=>∃ a,vs=[.ref a]/\(((∃ xs,SqL K H1 a xs)/\R (Ite fun H xs=>SqL K H a xs) H1)\/((∃ xs,SqT K H1 a xs)/\R (Ite fun H xs=>SqT K H a xs) H1))
theorem a5I{a:Expr}{ta:TA}{p pos:Pos}(hg:Gl X "enumerate")(hm:X.mg "enumerate" = none)(ha:PA X [a] ta)(htg:∃ es x1 pos,tg = .Tuple es x1 pos:=by exact ⟨_,_,_,rfl⟩)(hs:starEach [a] X.env=[(false,eval a X.env)]:=by rfl):PI X tg (.Call (.Name "enumerate" p) [a] [] pos) (b5D X.K ta):=by
 intro pins s σ H R I h;refine PyProof.Rows.Call_ (J9 I hg hm PyProof.Rows.boot_enumerate (PyProof.Rows.callWith_type1 (thn (ha pos pins s σ H _ I h) fun us s1 ⟨vs,H1,I1,r1,q1⟩=>?_) hs rfl));obtain ⟨a,e,⟨⟨xs,hq⟩,q⟩ | ⟨⟨xs,hq⟩,q⟩⟩:=q1
 ·subst e;obtain ⟨u,rfl,ru⟩:=A8 r1;cases ru;obtain ⟨its,rv,p,hz⟩:=I1.list hq;exact call_enumerate_list p.isList fun h' he hit _ hk=>a0Y htg I1 (a1I a _) he hit hk q
 ·subst e;obtain ⟨u,rfl,ru⟩:=A8 r1;cases ru;obtain ⟨its,rv,p,hz⟩:=I1.tuple hq;exact K1 (show s1.heap.IsTuple a its.toArray from p) fun h' he hit _ hk=>a0Y htg I1 (b1W a _) he hit hk q
theorem O3{a:Expr}{n:Nat}{fs:DA}{p pos:Pos}(hg:Gl X "enumerate")(hm:X.mg "enumerate" = none)(ha:SA X [a] n fs)(htg:∃ es x1 pos,tg = .Tuple es x1 pos:=by exact ⟨_,_,_,rfl⟩)(hs:starEach [a] X.env=[(false,eval a X.env)]:=by rfl):SI X tg (.Call (.Name "enumerate" p) [a] [] pos) (Q2 fs):=PI.imp (a5I hg hm ha htg hs) fun σ H Q zz0=>by
 obtain ⟨π,α,δ,h,Q',R,S,f,k⟩:=zz0;refine ⟨π,α,δ,h,_,R,S,f,fun ds h1 α1 H1 vs f1 e1 R1 q1 l1=>?_⟩
 split at f1
 ·rename_i d;obtain ⟨v,rfl,q3⟩:=q1.inv1
  cases q:A4 h1 d with
  |none=>rw [q] at f1;exact f1.elim
  |some Sr =>
   rw [q] at f1;obtain ⟨a,rfl,ok,⟨hu,sa⟩ | ⟨hu,sa⟩⟩:=Z4 R1 q3 q
   ·exact ⟨a,rfl,.inl ⟨hu,k ⟨C8 0 Sr.items,Sr.w⟩ h1 α1 H1 _ f1 e1 R1 (a2W sa) ok⟩⟩
   ·exact ⟨a,rfl,.inr ⟨hu,k ⟨C8 0 Sr.items,Sr.w⟩ h1 α1 H1 _ f1 e1 R1 (a2W sa) ok⟩⟩
 ·exact f1.elim
theorem C5{a:Expr}{n:Nat}{fs:DA}{p pos:Pos}(hg:Gl X "range")(hm:X.mg "range" = none)(ha:SA X [a] n fs)(hs:starEach [a] X.env=[(false,eval a X.env)]:=by rfl)(hn:n=1:=by rfl):SI X tg (.Call (.Name "range" p) [a] [] pos) (C3 fs):=PI.imp (a4l hg hm ha hs) fun σ H Q zz0=>by
 obtain ⟨π,α,δ,h,Q',R,S,f,k⟩:=zz0;refine ⟨π,α,δ,h,_,R,S,f,fun ds h1 α1 H1 vs f1 e1 R1 q1 l1=>?_⟩
 split at f1
 ·obtain ⟨v,rfl,q3⟩:=q1.inv1
  cases q3 with
  |int=>exact ⟨_,rfl,f1.1.1,f1.1.2,k _ h1 α1 H1 _ f1.2 e1 R1 a1n Src.ok_nil⟩
 ·subst hn;cases l1
 ·exact f1.elim
theorem a4q{a b:Expr}{n:Nat}{fs:DA}{p pos:Pos}(hg:Gl X "range")(hm:X.mg "range" = none)(ha:SA X [a,b] n fs)(hs:starEach [a,b] X.env=[(false,eval a X.env),(false,eval b X.env)]:=by rfl)(hs2:starEach [b] X.env=[(false,eval b X.env)]:=by rfl)(hn:n=2:=by rfl):SI X tg (.Call (.Name "range" p) [a,b] [] pos) (C3 fs):=PI.imp (a4f hg hm ha hs hs2) fun σ H Q zz0=>by
 obtain ⟨π,α,δ,h,Q',R,S,f,k⟩:=zz0;refine ⟨π,α,δ,h,_,R,S,f,fun ds h1 α1 H1 vs f1 e1 R1 q1 l1=>?_⟩
 split at f1
 ·subst hn;cases l1
 ·obtain ⟨v,v',rfl,q3,q4⟩:=q1.inv2
  cases q3 with
  |int i =>
   cases q4 with
   |int=>exact ⟨_,_,rfl,f1.1,k _ h1 α1 H1 _ f1.2 e1 R1 a1n Src.ok_nil⟩
 ·exact f1.elim
end
end DL
namespace DL
open PySem PySem.Spec L2
def dCB(p:PN)(f:DA):DE:=fun δ h Q=>f δ h fun ds h1=>p ds h1 Q
theorem a3i{K:PySem.W.Frag}{p:PN}{n:Nat}{f:DA}{σ:L2.St}{H:Hp}{Q:VK}(g:LE K (dCB p f) σ H Q):LA K n f σ H fun vs H1=>rN K p vs H1 Q:=by
 obtain ⟨π,α,δ,h,Q',R,S,f,k⟩:=g;exact ⟨π,α,δ,h,_,R,S,f,fun ds h1 α1 H1 vs f1 e1 R1 q1 l1=>⟨π,α1,h1,ds,Q',R1,q1,f1,fun d h' α' H' v a b c d'=>k d h' α' H' v a (e1.trans b) c d'⟩⟩
section
variable {X:Cx} {x:Str} {p pos:Pos} {e:Expr} {es:List Expr} {n:Nat} {f:DA} {id T:String} {r:PN}
theorem i7(hc:CallR X (.builtin id) (rN X.K r))(hg:Gl X x)(hm:X.mg x=none)(hv:bootBuiltins x=some (.builtin id))(ha:SA X (e :: es) n f)(hn:x ≠ "__name__":=by decide)(hdb:(x == ("__debug__":Str))=false:=by decide)
  (he:starEach (e :: es) X.env=(false,eval e X.env) :: starEach es X.env:=by rfl) (hpl:(backTo pos (starEach es X.env)).any (·.1)=false:=by rfl):SE X (.Call (.Name x p) (e :: es) [] pos) (dCB r f) :=
 PE.imp (Y5 hc hg hm hv ha hn hdb he hpl) fun _ _ _ g=>a3i g
theorem o8(hc:CallR X (.type T) (rN X.K r))(hg:Gl X x)(hm:X.mg x=none)(hv:bootBuiltins x=some (.type T))(ha:SA X (e :: es) n f)(hn:x ≠ "__name__":=by decide)(hdb:(x == ("__debug__":Str))=false:=by decide)
  (he:starEach (e :: es) X.env=(false,eval e X.env) :: starEach es X.env:=by rfl) (hpl:(backTo pos (starEach es X.env)).any (·.1)=false:=by rfl):SE X (.Call (.Name x p) (e :: es) [] pos) (dCB r f) :=
 PE.imp (L1 hc hg hm hv ha hn hdb he hpl) fun _ _ _ g=>a3i g
def T7(h:Hh):D->Option Nat
 |.str x=>if x.length <= 16777216 then some x.length else none
 |d=>(B6 h d).map List.length
def v9:PN:=fun ds h Q=>match ds with | [d]=>(match T7 h d with | some n=>Q (.int n) h | none=>False) | _=>False
theorem m6:CallR X (.builtin "len") (rN X.K v9):=CallR.imp a5W fun xs H Q zz0=>by
 obtain ⟨π,α,h,ds,Q',R,rs,f,k⟩:=zz0;unfold v9 at f
 split at f
 ·rename_i d;obtain ⟨v,rfl,rd⟩:=rs.inv1
  cases q:T7 h d with
  |none=>rw [q] at f;exact f.elim
  |some n =>
   rw [q] at f;refine ⟨v,n,rfl,?_,k _ h α H _ f (Ext.refl ..) R (.int _)⟩
   by_cases z:∃ x,d = .str x
   ·obtain ⟨x,rfl⟩:=z;cases rd;have q:(if x.length <= 16777216 then some x.length else none)=some n:=q
    split at q
    ·rename_i hl;cases q;exact ⟨by rw [sizeLine_eq];exact hl,rfl⟩
    ·cases q
   ·have q':(B6 h d).map List.length=some n:=by
     cases d with
     |str x=>exact absurd ⟨x,rfl⟩ z
     |_=>exact q
    cases w:B6 h d with
    |none=>rw [w] at q';cases q'
    |some ys =>
     rw [w] at q'
     cases q'
     obtain ⟨p,us,rfl,b,c⟩:=V1 R rd w
     rcases b with b | b
     ·exact .inl ⟨us,b,c.length⟩
     ·exact .inr ⟨us,b,c.length⟩
 ·exact f.elim
def G7:PN:=fun ds h Q=>match ds with | [d]=>(match B6 h d with | some xs=>Q (.tup xs) h | none=>False) | _=>False
theorem D4:CallR X (.type "tuple") (rN X.K G7):=CallR.imp Y8 fun xs H Q zz0=>by
 obtain ⟨π,α,h,ds,Q',R,rs,f,k⟩:=zz0;unfold G7 at f
 split at f
 ·rename_i d;obtain ⟨v,rfl,rd⟩:=rs.inv1
  cases w:B6 h d with
  |none=>rw [w] at f;exact f.elim
  |some ys =>
   rw [w] at f
   by_cases z:∃ x,d = .tup x
   ·obtain ⟨x,rfl⟩:=z;cases w
    cases rd with
    |tup t r=>exact ⟨_,_,rfl,.inr ⟨t.sq,k _ h α H _ f (Ext.refl ..) R (.tup t r)⟩⟩
   ·have w':A2 h d=some ys:=by
     cases d with
     |tup x=>exact absurd ⟨x,rfl⟩ z
     |lst x=>exact w
     |scr x=>exact w
     |ref x=>exact w
     |_=>cases w
    obtain ⟨p,us,rfl,b,c⟩:=B2 R rd w';refine ⟨p,us,rfl,.inl ⟨b,fun l hl=>?_⟩⟩;have e2:Ext α H α (upd H l (.tup us)):=Ext.new hl;exact k _ h α _ _ f e2 (R.new hl) (.tup ⟨R.out hl,R.outP hl,l9⟩ (c.mono e2))
 ·exact f.elim
def O5(f:DA):DN:=fun δ h Q=>f δ h fun ds h1=>match ds with | [d]=>(match B6 h1 d with | some xs=>Q xs h1 | none=>False) | _=>False
theorem U4(hg:Gl X "list")(hm:X.mg "list" = none)(ha:SA X (e :: es) n f)(he:starEach (e :: es) X.env=(false,eval e X.env) :: starEach es X.env:=by rfl)(hpl:(backTo pos (starEach es X.env)).any (·.1)=false:=by rfl) :
  SN X (.Call (.Name "list" p) (e :: es) [] pos) (O5 f):=PE.imp (L1 a0P hg hm PyProof.Rows.boot_list ha (by decide) (by decide) he hpl) fun σ H Q ⟨π,α,δ,h,Q',R,S,f,k⟩=>by
 refine ⟨π,α,δ,h,_,R,S,f,fun ds h1 α1 H1 vs f1 e1 R1 q1 l1=>?_⟩
 split at f1
 ·rename_i d;obtain ⟨v,rfl,rd⟩:=q1.inv1
  cases w:B6 h1 d with
  |none=>rw [w] at f1;exact f1.elim
  |some ys =>
   rw [w] at f1;obtain ⟨p,us,rfl,b,c⟩:=V1 R1 rd w;exact ⟨p,us,rfl,b,fun l hl=>LN.last (h:=h) k f1 e1 R1 c hl⟩
 ·exact f1.elim
def a6k:PN:=fun ds h Q=>match ds with | [.int i]=>Q (.int i) h | [.bl b]=>Q (.int (if b then 1 else 0)) h | _=>False
theorem a1Z:CallR X (.type "int") (rN X.K a6k):=CallR.imp a4k fun xs H Q zz0=>by
 obtain ⟨π,α,h,ds,Q',R,rs,f,k⟩:=zz0;unfold a6k at f
 split at f
 ·obtain ⟨v,rfl,rd⟩:=rs.inv1;cases rd;exact .inl ⟨_,rfl,k _ h α H _ f (Ext.refl ..) R (.int _)⟩
 ·obtain ⟨v,rfl,rd⟩:=rs.inv1;cases rd;exact .inr ⟨_,rfl,k _ h α H _ f (Ext.refl ..) R (.int _)⟩
 ·exact f.elim
def a9I:PN:=fun ds h Q=>match ds with | [.int i,.int j]=>Q (.int (if j < i then j else i)) h | _=>False
def c1E:PN:=fun ds h Q=>match ds with | [.int i,.int j]=>Q (.int (if j > i then j else i)) h | _=>False
def c1x:PN:=fun ds h Q=>match ds with | [.int i]=>Q (.int (if i < 0 then -i else i)) h | _=>False
theorem a6p(hc:X.calm=true):CallR X (.builtin "min") (rN X.K a9I):=CallR.imp (a4y hc) fun xs H Q zz0=>by
 obtain ⟨π,α,h,ds,Q',R,rs,f,k⟩:=zz0;unfold a9I at f
 split at f
 ·obtain ⟨v,w,rfl,rd,re⟩:=rs.inv2
  cases rd;cases re;exact ⟨_,_,rfl,k _ h α H _ f (Ext.refl ..) R (.int _)⟩
 ·exact f.elim
def b7W:PN:=fun ds h Q=>∃ (d:D) (ns:List Int),ds=[d]/\A2 h d=some (ns.map D.int)/\Q (.int ns.sum) h
theorem b4V(hc:X.calm=true):CallR X (.builtin "sum") (rN X.K b7W):=CallR.imp (Z0 hc) fun xs H Q zz0=>by
 obtain ⟨π,α,h,ds,Q',R,rs,f,k⟩:=zz0;obtain ⟨d,ns,rfl,w,f⟩:=f;obtain ⟨v,rfl,rd⟩:=rs.inv1;obtain ⟨p,us,rfl,b,c⟩:=B2 R rd w
 cases c.ints_inv
 exact ⟨p,ns,rfl,b,k _ h α H _ f (Ext.refl ..) R (.int _)⟩
def b2o:PN:=fun ds h Q=>∃ (d:D) (bs:List Bool),ds=[d]/\A2 h d=some (bs.map D.bl)/\Q (.bl (bs.all fun b=>b)) h
theorem a2C(hc:X.calm=true):CallR X (.builtin "all") (rN X.K b2o):=CallR.imp (Y4 hc) fun xs H Q zz0=>by
 obtain ⟨π,α,h,ds,Q',R,rs,f,k⟩:=zz0;obtain ⟨d,ns,rfl,w,f⟩:=f;obtain ⟨v,rfl,rd⟩:=rs.inv1;obtain ⟨p,us,rfl,b,c⟩:=B2 R rd w
 cases c.bls_inv
 exact ⟨p,ns,rfl,b,k _ h α H _ f (Ext.refl ..) R (.bl _)⟩
end
section
variable {X:Cx} {o e:Expr} {fo fe:DE} {fs:DA} {n:Nat} {apos cpos:Pos}
def c0w(fo:DE):DE:=fun δ h Q=>fo δ h fun d h1=>match d with | .int i=>Q (.int (Builtin.Int.intBits i:Nat)) h1 | _=>False
def q8(fo:DE)(fs:DA):DE:=fun δ h Q=>fo δ h fun d h1=>match d with
 |.ref i=>(match h1[i]? with
  |some (.lst _)=>fs δ h1 fun ds h2=>(match ds,h2[i]? with
   |[v],some (.lst ys)=>ys.length < 16777216/\Q .non (h2.set i (.lst (ys ++ [v])))
   |_,_=>False)
  |_=>False)
 |_=>False
theorem a2B{K:PySem.W.Frag}{π α:List Addr}{H:Hp}{h:Hh}(R:HRel ⟨K,π⟩ α H h){i:Nat}{a:Addr}{xs:List D}(hp:α[i]?=some a)(w:h[i]?=some (.lst xs)):∃ us,H a=some (.lst us)/\RelDs ⟨K,π⟩ α H xs us:=by
 obtain ⟨p,us,e1,e2,e3⟩:=R.lst w;rw [hp] at e1;cases e1;exact ⟨us,e2,e3⟩
theorem n9(ho:SE X o fo)(ha:SA X [e] n fs)(hbase:attributeBase o "append" X.env (eval o X.env)=eval o X.env:=by rfl)
  (hfew:((backTo cpos (starEach [e] X.env)).all (fun x=>!x.1) && (backToKw cpos (keywordEach [] X.env)).all (fun x=>x.1.isSome)
   && decide ([e].length + ([]:List Keyword).length + (if ([]:List Keyword).isEmpty then 0 else 1) < 30))=true:=by rfl)
  (hline:(apos.endLine == cpos.line)=true:=by rfl) (hs:starEach [e] X.env=(false,eval e X.env) :: starEach [] X.env:=by rfl) (hplain:(backTo cpos (starEach [] X.env)).any (·.1)=false:=by rfl) :
  SE X (.Call (.Attribute o "append" apos) [e] [] cpos) (q8 fo fs) :=
 PE.imp (X3 PySem.F.plainAttrs_list PySem.F.slot_list_append PySem.F.type_list_append a4S ho ha hbase hfew hline hs hplain) fun σ H Q zz0=>by
  obtain ⟨π,α,δ,h,Q',R,S,f,k⟩:=zz0;refine ⟨π,α,δ,h,_,R,S,f,fun d h1 α1 H1 v1 f1 e1 R1 q1=>?_⟩
  cases q1 with
  |@ref i a hp =>
   dsimp only at f1
   cases w:h1[i]? with
   |none=>rw [w] at f1;exact f1.elim
   |some ob =>
    rw [w] at f1
    cases ob with
    |lst xs =>
     obtain ⟨us,e2,e3⟩:=a2B R1 hp w;refine ⟨.inl ⟨rfl,us,SqL.of e2⟩,π,α1,δ,h1,_,R1,S.mono e1,f1,fun ds h2 α2 H2 vs f2 e2 R2 q2 l2=>?_⟩
     split at f2
     ·rename_i v ys w2;obtain ⟨u,rfl,q9⟩:=q2.inv1;have hp2:=e2.get hp;obtain ⟨us2,g2,g3⟩:=a2B R2 hp2 w2;have e4:Ext α2 H2 α2 (upd H2 a (.lst (us2 ++ [u]))):=Ext.write (List.mem_of_getElem? hp2);exact ⟨a,us2,u,rfl,rfl,g2,by rw [<- g3.length,sizeLine_eq];exact f2.1,k _ _ α2 _ _ f2.2 (e1.trans (e2.trans e4)) (R2.write hp2 (.lst l9 ((g3.snoc q9).mono e4))) .non⟩
     ·exact f2.elim
    |_=>exact f1.elim
  |_=>exact f1.elim
def c1C(fo:DE):DE:=fun δ h Q=>fo δ h fun d h1=>match d with
 |.ref i=>(match h1[i]? with
  |some (.lst xs)=>(match xs[xs.length - 1]? with | some y=>Q y (h1.set i (.lst xs.dropLast)) | none=>False)
  |_=>False)
 |_=>False
def a7R(fo:DE):DE:=fun δ h Q=>fo δ h fun d h1=>match d with
 |.ref i=>(match h1[i]? with | some (.lst _)=>Q .non (h1.set i (.lst [])) | _=>False)
 |_=>False
theorem a6C(ho:SE X o fo)(hbase:attributeBase o "clear" X.env (eval o X.env)=eval o X.env:=by rfl)(hline:(apos.endLine == cpos.line)=true:=by rfl):SE X (.Call (.Attribute o "clear" apos) [] [] cpos) (a7R fo) :=
 PE.imp (a5L PySem.F.plainAttrs_list PySem.F.slot_list_clear PySem.F.type_list_clear a5w ho hbase hline) fun σ H Q zz0=>by
  obtain ⟨π,α,δ,h,Q',R,S,f,k⟩:=zz0;refine ⟨π,α,δ,h,_,R,S,f,fun d h1 α1 H1 v1 f1 e1 R1 q1=>?_⟩
  cases q1 with
  |@ref i a hp =>
   dsimp only at f1
   cases w:h1[i]? with
   |none=>rw [w] at f1;exact f1.elim
   |some ob =>
    rw [w] at f1
    cases ob with
    |lst xs =>
     obtain ⟨us,e2,e3⟩:=a2B R1 hp w;have e4:Ext α1 H1 α1 (upd H1 a (.lst [])):=Ext.write (List.mem_of_getElem? hp);exact ⟨.inl ⟨rfl,us,SqL.of e2⟩,a,us,rfl,rfl,e2,k _ _ α1 _ _ f1 (e1.trans e4) (R1.write hp (.lst l9 .nil)) .non⟩
    |_=>exact f1.elim
  |_=>exact f1.elim
end
abbrev DSp:=List D->Hh->DK->Prop
inductive spD(K:PySem.W.Frag)(n:Nat)(g:DSp)(vs:List V)(H:Hp)(Q:VK)(X9:XK):Prop
 |mk (π:List Addr) (α:List Addr) (h:Hh) (ds:List D) (Q':DK):HRel ⟨K,π⟩ α H h->RelDs ⟨K,π⟩ α H ds vs->ds.length=n->g ds h Q'->(∀ d h' α' H' v,Q' d h'->Ext α H α' H'->HRel ⟨K,π⟩ α' H' h'->RelD ⟨K,π⟩ α' H' d v->Q v H')->spD K n g vs H Q X9
def n8(g:DSp)(f:DA):DE:=fun δ h Q=>f δ h fun ds h1=>g ds h1 Q
section
variable {X:Cx} {k m:Nat} {ps:List Str} {g:DSp} {x:Str} {p pos:Pos} {e:Expr} {es:List Expr} {n:Nat} {f:DA}
theorem h7(c:Cal X.prog X.w X.K X.mg X.base k x ps (spD X.K m g))(hr:Room k X.A)(hg:Gl X x)(ha:SA X (e :: es) n f)(hn:n=m:=by rfl)(hdb:(x == ("__debug__":Str))=false:=by decide)
  (he:starEach (e :: es) X.env=(false,eval e X.env) :: starEach es X.env:=by rfl) (hpl:(backTo pos (starEach es X.env)).any (·.1)=false:=by rfl):SE X (.Call (.Name x p) (e :: es) [] pos) (n8 g f) :=
 PE.imp (b4k c hr hg ha hdb he hpl) fun σ H Q zz0=>by
  obtain ⟨π,α,δ,h,Q',R,S,f,k⟩:=zz0;refine ⟨π,α,δ,h,_,R,S,f,fun ds h1 α1 H1 vs f1 e1 R1 q1 l1=>?_⟩;show spD X.K m g (vs ++ []) H1 Q E0;rw [List.append_nil];exact ⟨π,α1,h1,ds,Q',R1,q1,l1.trans hn,f1,fun d h' α' H' v a b c d'=>k d h' α' H' v a (e1.trans b) c d'⟩
end
def m4(n:Nat)(b:DS):DSp:=fun ds h Q=>b { nx:=fun _ h'=>Q .non h',rt:=Q } (ds.map some ++ List.replicate (n - ds.length) none) h
theorem V8{K:KP}{α:List Addr}{H:Hp}{ds:List D}{vs:List V}{N:List Str}(r:RelDs K α H ds vs):RelS K α H (ds.map some ++ List.replicate (N.length - ds.length) none) (L2.start N vs):=by
 refine ⟨by unfold L2.start;simp [r.length],fun i d e=>?_⟩
 by_cases hi:i < ds.length
 ·rw [List.getElem?_append_left (by simpa using hi),List.getElem?_map] at e
  cases q:ds[i]? with
  |none=>rw [q] at e;cases e
  |some z =>
   rw [q] at e;cases e;obtain ⟨u,h1,h2⟩:=r.get q;refine ⟨u,?_,h2⟩;unfold L2.start;rw [List.getElem?_append_left (by rw [List.length_map,<- r.length];exact hi),List.getElem?_map,h1];rfl
 ·rw [List.getElem?_append_right (by simpa using hi),List.getElem?_replicate] at e
  split at e <;> cases e
section
variable {P:Program} {w:World} {K:PySem.W.Frag} {mg:Str->Option Value} {base:Heap}
theorem x0{x qual:Str}{st:Stmt}{f:Addr}{fd:FuncData}{N ps:List Str}{k:Nat}{b:DS}{g:DSp}(F:Fun K x qual st f fd)(S:j1 N ps (g8 st))
  (hb:∀ (cdv:Value) (A:Around) (outer:List Env) (s:Shared) (H:Hp) (E:XK),Room k (A.deeper (PyProof.Rows.envOfC qual (g8 st) s.heap.objs.size f cdv))->SSs (a1c CX0 P w K mg base N qual (g8 st) f cdv A outer s H E).nox (A9 st) b)
  (hg:∀ ds h Q,g ds h Q->m4 N.length b ds h Q):t8 P w K mg base CX0 (k + 1) f fd ps (spD K ps.length g):=by
 refine F.ok S (fun vs H Q E h=>?_) fun cdv A outer s H vs Q E hr h=>?_
 ·obtain ⟨π,α,h,ds,Q',R,r,l,_⟩:=h;rw [<- r.length,l]
 ·obtain ⟨π,α,h,ds,Q',R,r,l,q,kk⟩:=h;refine ⟨_,hb cdv A outer s H E hr,π,α,_,h,{ nx:=fun _ h'=>Q' .non h',rt:=Q' },R,V8 r,hg ds h Q' q,⟨fun _ h' α' H' σ' a b c _=>kk .non h' α' H' .non a b c .non,fun d h' α' H' v a b c d'=>kk d h' α' H' v a b c d',fun _ _ _ _ _ a _ _ _=>a.elim,fun _ _ _ _ _ a _ _ _=>a.elim,fun _ _ _ _ _ _ _ a _ _ _=>a.elim⟩⟩
end
end DL
namespace DL
open PySem PySem.Spec L2
def lsP(h:Hh):D->Option (List D)
 |.lst xs=>some xs
 |.ref i=>match h[i]? with | some (.lst xs)=>some xs | _=>none
 |_=>none
theorem a0D{K:KP}{α:List Addr}{H:Hp}{h:Hh}(R:HRel K α H h){d:D}{v:V}{xs:List D}(r:RelD K α H d v)(e:lsP h d=some xs):∃ p us,v = .ref p/\H p=some (.lst us)/\RelDs K α H xs us:=by
 cases r with
 |lst t r=>cases e;exact ⟨_,_,rfl,t.2.2,r⟩
 |@ref i a hp =>
  have e:(match h[i]? with | some (.lst xs)=>some xs | _=>none)=some xs:=e
  cases q:h[i]? with
  |none=>rw [q] at e;cases e
  |some o =>
   rw [q] at e
   cases o with
   |lst ys =>
    cases e;obtain ⟨p,us,e1,e2,e3⟩:=R.lst q;rw [hp] at e1;cases e1;exact ⟨_,us,rfl,e2,e3⟩
   |_=>cases e
 |_=>cases e
def m3:P2:=fun x y h Q=>match lsP h x,lsP h y with
 |some xs,some ys=>xs.length + ys.length <= 16777216/\Q (.lst (xs ++ ys)) h
 |_,_=>b7B x y h Q
section
variable {X:Cx}
theorem j0:OpR X (binaryOp .Add) (r2 X.K m3):=OpR.imp (op_cat.or b5c) fun x y H Q zz0=>by
 obtain ⟨π,α,h,d,e,Q',R,r1,r2,f,k⟩:=zz0;unfold m3 at f
 cases w:lsP h d with
 |none=>rw [w] at f;exact .inr ⟨π,α,h,d,e,Q',R,r1,r2,f,k⟩
 |some xs =>
  cases w':lsP h e with
  |none=>rw [w,w'] at f;exact .inr ⟨π,α,h,d,e,Q',R,r1,r2,f,k⟩
  |some ys =>
   rw [w,w'] at f;obtain ⟨p,us,rfl,b,c⟩:=a0D R r1 w;obtain ⟨p',us',rfl,b',c'⟩:=a0D R r2 w';refine .inl ⟨p,p',us,us',rfl,rfl,b,b',by rw [<- c.length,<- c'.length,sizeLine_eq];exact f.1,fun l hl=>?_⟩;have e2:Ext α H α (upd H l (.lst (us ++ us'))):=Ext.new hl;exact k _ h α _ _ f.2 e2 (R.new hl) (.lst ⟨R.out hl,R.outP hl,l9⟩ ((c.append c').mono e2))
def c1d(fa fb:DE):DN:=fun δ h Q=>fa δ h fun x h1=>fb δ h1 fun y h2=>match lsP h2 x,lsP h2 y with
 |some xs,some ys=>xs.length + ys.length <= 16777216/\Q (xs ++ ys) h2
 |_,_=>False
theorem a3m{K:KP}{α:List Addr}{H:Hp}{ds:List D}{us:List V}(r:RelDs K α H ds us):∀ n:Nat,RelDs K α H (List.replicate n ds).flatten (List.replicate n us).flatten
 |0=>.nil
 |n + 1=>by rw [List.replicate_succ,List.replicate_succ,List.flatten_cons,List.flatten_cons];exact r.append (a3m r n)
def a5J(fa fb:DE):DN:=fun δ h Q=>fa δ h fun x h1=>fb δ h1 fun y h2=>match lsP h2 x,y with
 |some xs,.int n=>(-(2 ^ 63) <= n/\n < 2 ^ 63/\xs.length * n.toNat <= 16777216)/\Q (List.replicate n.toNat xs).flatten h2
 |_,_=>False
theorem a7c{a b:Expr}{fa fb:DE}{pos:Pos}(ha:SE X a fa)(hb:SE X b fb):SN X (.BinOp a .Mult b pos) (a5J fa fb):=PE.imp (b2x b4T ha hb) fun σ H Q zz0=>by
 obtain ⟨π,α,δ,h,Q',R,S,f,k⟩:=zz0;refine ⟨π,α,δ,h,_,R,S,f,fun x h1 α1 H1 v1 f1 e1 R1 q1=>?_⟩;refine ⟨π,α1,δ,h1,_,R1,S.mono e1,f1,fun y h2 α2 H2 v2 f2 e2 R2 q2=>?_⟩
 split at f2
 ·rename_i xs n w;cases q2;obtain ⟨p,us,rfl,b,c⟩:=a0D R2 (q1.mono e2) w;exact ⟨p,n,us,rfl,rfl,b,f2.1.1,f2.1.2.1,by rw [<- c.length,sizeLine_eq];exact f2.1.2.2,fun l hl=>LN.last (h:=h) k f2.2 (e1.trans e2) R2 (a3m c _) hl⟩
 ·exact f2.elim
theorem b1L:OpR X (binaryOp .Mult) (rI IntMulOk fun i j=>.int (i * j)):=opI fun _ _ _ _ _ _ _ hc q=>PyProof.Rows.mul_int q hc
def E3:P2:=pI IntMulOk fun i j=>i * j
theorem t7:OpR X (binaryOp .Mult) (r2 X.K E3):=a3B b1L
def c1y:P2:=fun x y h Q=>match x,y with
 |.int i,.int j=>IntMulOk i j/\Q (.int (i * j)) h
 |.tup xs,.int n=>(xs ≠ []/\xs.length <= 10/\1 <= n/\n < 100)/\Q (.tup (List.replicate n.toNat xs).flatten) h
 |x,.int n=>(match lsP h x with | some xs=>(-(2 ^ 63) <= n/\n < 2 ^ 63/\xs.length * n.toNat <= 16777216)/\Q (.lst (List.replicate n.toNat xs).flatten) h | none=>False)
 |_,_=>False
def dSl(fe:DE)(fl fh:DO):DE:=fun δ h Q=>fe δ h fun d h1=>fl δ h1 fun l h2=>fh δ h2 fun u h3=>match d with
 |.tup xs=>Q (.tup (E8 xs l u)) h3
 |d=>match A2 h3 d with | some xs=>Q (.lst (E8 xs l u)) h3 | none=>False
theorem G2{e:Expr}{fe:DE}{lo hi:Option Expr}{fl fh:DO}{pos p2:Pos}(he:SE X e fe)(hl:SO X lo fl)(hu:SO X hi fh):SE X (.Subscript e (.Slice lo hi none p2) pos) (dSl fe fl fh):=PE.imp (a1N (sl_tupD.or b1p) he hl hu) fun σ H Q zz0=>by
 obtain ⟨π,α,δ,h,Q',R,S,f,k⟩:=zz0;refine ⟨π,α,δ,h,_,R,S,f,fun d h1 α1 H1 v1 f1 e1 R1 q1=>?_⟩;refine ⟨π,α1,δ,h1,_,R1,S.mono e1,f1,fun l h2 α2 H2 f2 e2 R2=>?_⟩;refine ⟨π,α2,δ,h2,_,R2,S.mono (e1.trans e2),f2,fun u h3 α3 H3 f3 e3 R3=>?_⟩;have q3:=(q1.mono e2).mono e3
 split at f3
 ·cases q3 with
  |@tup a us ds t r =>
   refine .inl ⟨a,us,rfl,t.sq,fun z=>?_,fun p hp=>?_⟩
   ·have c:=a0V r l u;rw [z] at c;exact k _ h3 α3 H3 _ f3 (e1.trans (e2.trans e3)) R3 (.tup t c)
   ·have e4:Ext α3 H3 α3 (upd H3 p (.tup (N8 us l u))):=Ext.new hp;exact k _ h3 α3 _ _ f3 (e1.trans (e2.trans (e3.trans e4))) (R3.new hp) (.tup ⟨R3.out hp,R3.outP hp,l9⟩ ((a0V r l u).mono e4))
 ·split at f3
  ·rename_i xs w;obtain ⟨p,us,rfl,b,c⟩:=B2 R3 q3 w;refine .inr ⟨p,us,rfl,b,fun l' hl=>?_⟩;have e4:Ext α3 H3 α3 (upd H3 l' (.lst (N8 us l u))):=Ext.new hl;exact k _ h3 α3 _ _ f3 (e1.trans (e2.trans (e3.trans e4))) (R3.new hl) (.lst ⟨R3.out hl,R3.outP hl,l9⟩ ((a0V c l u).mono e4))
  ·exact f3.elim
def U1(fo:DE)(fs:DA):DE:=fun δ h Q=>fo δ h fun d h1=>match d with
 |.ref i=>(match h1[i]? with
  |some (.lst _)=>fs δ h1 fun ds h2=>(match ds,h2[i]? with
   |[v],some (.lst ys)=>(match lsP h2 v with | some zs=>ys.length + zs.length <= 16777216/\Q .non (h2.set i (.lst (ys ++ zs))) | none=>False)
   |_,_=>False)
  |_=>False)
 |_=>False
theorem P9{o e:Expr}{fo:DE}{fs:DA}{n:Nat}{apos cpos:Pos}(ho:SE X o fo)(ha:SA X [e] n fs)(hbase:attributeBase o "extend" X.env (eval o X.env)=eval o X.env:=by rfl)
  (hfew:((backTo cpos (starEach [e] X.env)).all (fun x=>!x.1) && (backToKw cpos (keywordEach [] X.env)).all (fun x=>x.1.isSome)
   && decide ([e].length + ([]:List Keyword).length + (if ([]:List Keyword).isEmpty then 0 else 1) < 30))=true:=by rfl)
  (hline:(apos.endLine == cpos.line)=true:=by rfl) (hs:starEach [e] X.env=(false,eval e X.env) :: starEach [] X.env:=by rfl) (hplain:(backTo cpos (starEach [] X.env)).any (·.1)=false:=by rfl) :
  SE X (.Call (.Attribute o "extend" apos) [e] [] cpos) (U1 fo fs) :=
 PE.imp (X3 PySem.F.plainAttrs_list PySem.F.slot_list_extend PySem.F.type_list_extend a4V ho ha hbase hfew hline hs hplain) fun σ H Q zz0=>by
  obtain ⟨π,α,δ,h,Q',R,S,f,k⟩:=zz0;refine ⟨π,α,δ,h,_,R,S,f,fun d h1 α1 H1 v1 f1 e1 R1 q1=>?_⟩
  cases q1 with
  |@ref i a hp =>
   dsimp only at f1
   cases w:h1[i]? with
   |none=>rw [w] at f1;exact f1.elim
   |some ob =>
    rw [w] at f1
    cases ob with
    |lst xs =>
     obtain ⟨us,e2,e3⟩:=a2B R1 hp w;refine ⟨.inl ⟨rfl,us,SqL.of e2⟩,π,α1,δ,h1,_,R1,S.mono e1,f1,fun ds h2 α2 H2 vs f2 e2 R2 q2 l2=>?_⟩
     split at f2
     ·rename_i v ys w2;obtain ⟨u,rfl,q9⟩:=q2.inv1
      split at f2
      ·rename_i zs w3;have hp2:=e2.get hp;obtain ⟨us2,g2,g3⟩:=a2B R2 hp2 w2;obtain ⟨b,us3,rfl,g4,g5⟩:=a0D R2 q9 w3;have e4:Ext α2 H2 α2 (upd H2 a (.lst (us2 ++ us3))):=Ext.write (List.mem_of_getElem? hp2);exact ⟨a,b,us2,us3,rfl,rfl,g2,g4,by rw [<- g3.length,<- g5.length,sizeLine_eq];exact f2.1,k _ _ α2 _ _ f2.2 (e1.trans (e2.trans e4)) (R2.write hp2 (.lst l9 ((g3.append g5).mono e4))) .non⟩
      ·exact f2.elim
     ·exact f2.elim
    |_=>exact f1.elim
  |_=>exact f1.elim
def E5(h:Hh):D->Option String
 |.non=>some "NoneType"
 |.bl _=>some "bool"
 |.int _=>some "int"
 |.str _=>some "str"
 |.tup _=>some "tuple"
 |.lst _=>some "list"
 |.ref i=>match h[i]? with | some (.lst _)=>some "list" | some (.dT none _)=>some "dict" | some (.dK _)=>some "dict" | _=>none
 |_=>none
def j3(t T:String):Bool:=t == T || (t == "bool" && T == "int")
theorem b3U{K:PySem.W.Frag}{t T:String}(ht:t ∈ ["NoneType","bool","int","str","tuple","list","dict"])(hT:T ∈ ["bool","int","str","tuple","list","dict"]):PySem.W.kitOne K (.type t) (.type T)=some (j3 t T):=by
 simp only [List.mem_cons,List.not_mem_nil,or_false] at ht hT
 rcases ht with rfl | rfl | rfl | rfl | rfl | rfl | rfl <;> rcases hT with rfl | rfl | rfl | rfl | rfl | rfl <;> rfl
def P0(T:String)(fa:DE):DE:=fun δ h Q=>fa δ h fun d h1=>match E5 h1 d with | some t=>Q (.bl (j3 t T)) h1 | none=>False
theorem b0V{h:Hh}{d:D}{t:String}(e:E5 h d=some t):t ∈ ["NoneType","bool","int","str","tuple","list","dict"]:=by
 unfold E5 at e
 split at e
 all_goals first | (cases e;done) | (cases e;decide) | skip
 split at e
 all_goals first | (cases e;done) | (cases e;decide)
theorem a0S{T:String}:CallR X (.builtin "isinstance") (fun xs H Q=>∃ x t b,xs=[x,.ty T]/\(P3 X.K H x t\/(t = .type "tuple"/\∃ a us,x = .ref a/\SqT X.K H a us))/\PySem.W.kitOne X.K t (.type T)=some b/\Q (.bl b) H):=by
 intro pins s σ H xs us Q I r h;obtain ⟨x,t,b,rfl,ty,e,q⟩:=h;obtain ⟨u,w',rfl,ru,rw'⟩:=b3c r
 cases rw'
 rcases ty with ty | ⟨rfl,a,us,rfl,hq⟩
 ·exact a4F I ru ty e fun tk=>⟨.bl b,H,I.tok _,rfl,q⟩
 ·cases ru;obtain ⟨its,rv,⟨o,h1,h2,_⟩,_⟩:=I.tuple hq;exact PySem.W.kia_one PySem.W.kitx_tuple I.kIn ⟨o,h1,h2⟩ e (fun z=>nomatch z) fun tk=>⟨.bl b,H,I.tok _,rfl,q⟩
theorem b2i{K:PySem.W.Frag}{π α:List Addr}{H:Hp}{h:Hh}{d:D}{v:V}{t:String}(R:HRel ⟨K,π⟩ α H h)(r:RelD ⟨K,π⟩ α H d v)(e:E5 h d=some t):P3 K H v (.type t)\/(Value.type t = .type "tuple"/\∃ a us,v = .ref a/\SqT K H a us):=by
 cases r with
 |non=>cases e;exact .inl .non
 |bl b=>cases e;exact .inl (.bl b)
 |int i=>cases e;exact .inl (.int i)
 |str x=>cases e;exact .inl (.str x)
 |tup t r=>cases e;exact .inr ⟨rfl,_,_,rfl,t.sq⟩
 |lst t r=>cases e;exact .inl (.lst t.2.2)
 |scr t r=>cases e
 |exc _ _ _=>cases e
 |@ref i a hp =>
  have e:(match h[i]? with | some (.lst _)=>some "list" | some (.dT none _)=>some "dict" | some (.dK _)=>some "dict" | _=>none)=some t:=e
  cases q:h[i]? with
  |none=>rw [q] at e;cases e
  |some o =>
   rw [q] at e
   cases o with
   |lst ys =>
    cases e;obtain ⟨us,e2,e3⟩:=a2B R hp q;exact .inl (.lst e2)
   |dT z ys =>
    cases z with
    |none =>
     cases e;obtain ⟨p,us,e1,e2,e3⟩:=R.dT q;rw [hp] at e1;cases e1;exact .inl (.dT e2)
    |some o=>cases e
   |dK ys =>
    cases e;obtain ⟨p,us,e1,e2,e3⟩:=R.dK q;rw [hp] at e1;cases e1;exact .inl (.dK e2)
   |ins C fs=>cases e
theorem L3{T:String}{a:Expr}{fa:DE}{x:Str}{p p2 pos:Pos}(hT:T ∈ ["bool","int","str","tuple","list","dict"])(hg:Gl X "isinstance")(hm:X.mg "isinstance" = none)(ha:SE X a fa)(ht:PE X (.Name x p2) (tC (.ty T)))
  (he:starEach [a,.Name x p2] X.env=(false,eval a X.env) :: starEach [.Name x p2] X.env:=by rfl) (he2:starEach [.Name x p2] X.env=(false,eval (.Name x p2) X.env) :: starEach [] X.env:=by rfl) (hpl:(backTo pos (starEach [.Name x p2] X.env)).any (·.1)=false:=by rfl) :
  SE X (.Call (.Name "isinstance" p) [a,.Name x p2] [] pos) (P0 T fa):=PE.imp (Y5 a0S hg hm PyProof.Rows.boot_isinstance (P7 ha (P7 ht a0R he2) he) (by decide) (by decide) he hpl) fun σ H Q ⟨π,α,δ,h,Q',R,S,f,k⟩=>by
 refine ⟨π,α,δ,h,_,R,S,f,fun d h1 α1 H1 v1 f1 e1 R1 q1=>?_⟩
 split at f1
 ·rename_i t w;exact ⟨v1,.type t,_,rfl,b2i R1 q1 w,b3U (b0V w) hT,k _ h1 α1 H1 _ f1 e1 R1 (.bl _)⟩
 ·exact f1.elim
def T2:D->Bool
 |.non=>true
 |.bl _=>true
 |.int _=>true
 |.str _=>true
 |_=>false
def eqF:D->D->Bool
 |.non,.non=>true
 |.bl a,.bl b=>a == b
 |.bl a,.int b=>(if a then 1 else 0) == b
 |.int a,.bl b=>a == (if b then 1 else 0)
 |.int a,.int b=>a == b
 |.str a,.str b=>a == b
 |_,_=>false
def inF(x:D)(xs:List D):Bool:=xs.any fun y=>eqF y x
theorem a1B{K:KP}{α:List Addr}{H:Hp}{d:D}{v:V}(r:RelD K α H d v):L9 v=T2 d:=by cases r <;> rfl
theorem a0u{K:KP}{α:List Addr}{H:Hp}:∀ {ds:List D} {vs:List V},RelDs K α H ds vs->vs.all L9=ds.all T2
 |_,_,.nil=>rfl
 |_,_,.cons r t=>by rw [List.all_cons,List.all_cons,a1B r,a0u t]
theorem b2h{K:KP}{α:List Addr}{H:Hp}{d e:D}{v u:V}(r:RelD K α H d v)(s:RelD K α H e u):eqV v u=eqF d e:=by
 cases r <;> cases s <;> rfl
theorem a3R{K:KP}{α:List Addr}{H:Hp}{d:D}{v:V}(r:RelD K α H d v):∀ {ds:List D} {vs:List V},RelDs K α H ds vs->inV v vs=inF d ds
 |_,_,.nil=>rfl
 |_,_,.cons s t=>by
  have:=a3R r t
  unfold inV inF at this ⊢;rw [List.any_cons,List.any_cons,this,b2h s r]
def pIn(neg:Bool):P2:=fun x y h Q=>match B6 h y with
 |some xs=>(T2 x && xs.all T2)=true/\Q (.bl (if neg then !inF x xs else inF x xs)) h
 |none=>False
theorem b2v{neg:Bool}{x y:V}{H:Hp}{Q:VK}(g:r2 X.K (pIn neg) x y H Q):rIn X.K neg x y H Q:=by
 obtain ⟨π,α,h,d,e,Q',R,r1,r2,f,k⟩:=g;unfold pIn at f
 split at f
 ·rename_i xs w;obtain ⟨p,us,rfl,b,c⟩:=V1 R r2 w;obtain ⟨f1,f2⟩:=f;rw [Bool.and_eq_true] at f1;refine ⟨p,us,rfl,b,by rw [a1B r1];exact f1.1,by rw [a0u c];exact f1.2,k _ h α H _ f2 (Ext.refl ..) R ?_⟩;rw [a3R r1 c];exact .bl _
 ·exact f.elim
theorem a6M:OpR X (compareOp .In) (r2 X.K (pIn false)):=OpR.imp a0t fun _ _ _ _ g=>b2v g
theorem P6:OpR X (compareOp .NotIn) (r2 X.K (pIn true)):=OpR.imp P8 fun _ _ _ _ g=>b2v g
end
end DL
namespace DL
open PySem PySem.Spec L2
section
variable {X:Cx}
def a2i:List D->Option (List Int)
 |[]=>some []
 |.int i :: r=>(a2i r).map (i :: ·)
 |_ :: _=>none
def pLt:P2:=fun x y h Q=>match x,y with
 |.int i,.int j=>Q (.bl (decide (i < j))) h
 |.tup a,.tup b=>(match a2i a,a2i b with | some ns,some ms=>Q (.bl (HT.lexLt ns ms)) h | _,_=>False)
 |.str a,.str b=>Q (.bl (decide (a.cps.toList < b.cps.toList))) h
 |_,_=>False
def c0n:D->Option Key
 |.int i=>some (.inl i)
 |.str x=>some (.inr x)
 |_=>none
def lkG(kvs:List (Key×Int))(k:Key):Option Int:=(kvs.find? fun kv=>decide (kv.1=k)).map (·.2)
def c1A(kvs:List (Key×Int))(fi:DE):DE:=fun δ h Q=>fi δ h fun d h1=>match (c0n d).bind fun k=>lkG kvs k with | some v=>Q (.int v) h1 | none=>False
theorem a7a{K:PySem.W.Frag}{π α:List Addr}{H:Hp}{Sq:Hp->List V->Prop}{S:Src}(s:a2I K π α H Sq S.items S.w):ItA K π α H (b5s Sq) ⟨C8 1 S.items,S.w⟩:=fun π' sub=>by
 obtain ⟨St,si,st⟩:=s π' sub;refine ⟨St,⟨si.keep,si.priv,fun α H h i d R st ok hi=>?_,fun α H h R st ok=>?_⟩,st⟩
 ·rw [L4] at hi
  cases q:S.items[i]? with
  |none=>rw [q] at hi;cases hi
  |some y =>
   rw [q] at hi;cases hi;obtain ⟨us,hq,rs⟩:=si.get α H h R st ok;obtain ⟨u,hu,ru⟩:=rs.get q;refine ⟨⟨us,u,hq,hu⟩,fun x H' ⟨T,v,e0,hT,e1,e2⟩=>?_⟩;subst e0 e1
   have:=(e2 us hq).symm.trans hu
   obtain rfl:=Option.some.inj this
   have e3:Ext α H α (upd H T (.tup [.int ((i:Nat) + 1),v])):=Ext.new hT;refine ⟨e3,R.new hT,.tup ⟨R.out hT,R.outP hT,l9⟩ (.cons ?_ (.cons (ru.mono e3) .nil))⟩;rw [Int.add_comm];exact .int _
 ·obtain ⟨us,hq,rs⟩:=si.get α H h R st ok;exact ⟨us,hq,by rw [J1,rs.length]⟩
def a3x(f:DA):DI:=fun δ h Q=>f δ h fun ds h1=>match ds with | [d]=>(match d with | .tup _=>False | d=>match A4 h1 d with | some S=>Q ⟨C8 1 S.items,S.w⟩ h1 | none=>False) | _=>False
theorem a6l{a:Expr}{n:Nat}{fs:DA}{p pos kp:Pos}{cj:Nat}{kpos:Pos}{tg:Expr}(hg:Gl X "enumerate")(hm:X.mg "enumerate" = none)(ha:SA X [a] n fs)(htg:∃ es x1 pos,tg = .Tuple es x1 pos:=by exact ⟨_,_,_,rfl⟩)(hs:starEach [a] X.env=[(false,eval a X.env)]:=by rfl):SI X tg (.Call (.Name "enumerate" p) [a] [⟨some (Str.ofString "start"),.Constant (.int 1) cj kpos,kp⟩] pos) (a3x fs):=PI.imp (a4p hg hm ha htg hs) fun σ H Q zz0=>by
 obtain ⟨π,α,δ,h,Q',R,S,f,k⟩:=zz0;refine ⟨π,α,δ,h,_,R,S,f,fun ds h1 α1 H1 vs f1 e1 R1 q1 l1=>?_⟩
 split at f1
 ·rename_i d;obtain ⟨v,rfl,q3⟩:=q1.inv1
  split at f1
  ·exact f1.elim
  ·rename_i nt
   cases q:A4 h1 d with
   |none=>rw [q] at f1;exact f1.elim
   |some Sr =>
    rw [q] at f1;obtain ⟨a,rfl,ok,hu,sa⟩:=a2h R1 q3 q fun ys z=>nt ys z;exact ⟨a,rfl,hu,k ⟨C8 1 Sr.items,Sr.w⟩ h1 α1 H1 _ f1 e1 R1 (a7a sa) ok⟩
 ·exact f1.elim
end
end DL
namespace Att
open PySem PySem.W PySem.Calls PyProof.Rows
theorem S7:∀ (ns:List Int) (x:Int),x ∈ ns->Builtin.Int.intBits x <= WData.weightAll (ns.map WData.int)
 |n :: r,x,h=>by
  rw [List.map_cons];show _ <= WData.weight (.int n) + 1 + WData.weightAll (r.map WData.int)
  rcases List.mem_cons.mp h with rfl | h
  ·have e:WData.weight (.int x)=Builtin.Int.intBits x:=rfl;rw [e];omega
  ·have:=S7 r x h
   omega
theorem a4T{ns:List Int}(h:WData.layableAll [WData.list (ns.map WData.int)]=true):∀ x ∈ ns,Builtin.Int.intBits x <= 1048576:=fun x hx=>by
 have h:(WData.layable (.list (ns.map WData.int)) && true)=true:=h;rw [Bool.and_true] at h;unfold WData.layable at h;rw [Bool.and_eq_true] at h;have h2:WData.weight (.list (ns.map WData.int)) <= 2 ^ 20:=of_decide_eq_true h.2;exact Nat.le_trans (S7 ns x hx) h2
theorem attach_call2{l:OpenLaw}{n:Nat}{q:Program}{loose:List Str}{XP:(Str->Option Value)->Heap->Prop}{YP:World->Heap->Prop}{d:DefRec}
  (hn:l.most=some n) (hdf:d.params.defaults=[])
  (call:∀ (w:World) (s₀ s₁:Shared) (mg mb:Str->Option Value) (fa:Addr) (o:Obj) (pm cd doc:Value) (a:Addr) (vs:List Value) (ns:List Int),
   Ground q loose [] XP w s₀ mg mb s₁.heap->YP w s₁.heap ->
   s₁.heap.get? fa=some o->o.data = .func (docDef d.name d.params d.body d.scope pm cd doc)->s₁.heap.CodeRec cd d.name->mg d.name=some (.ref fa) ->
   s₁.heap.get? a=some { cls:=.type "list",data:=.seq vs.toArray }->IntsAre vs ns->ns.length <= n->(∀ x ∈ ns,Builtin.Int.intBits x <= 1048576)->s₁.gens = #[] ->
   codeAny (model l.prog w) callerA (.call (.ref fa) ⟨[.ref a],[]⟩) (fun r s'=>r = .ok (.ret (.bool true))/\OldK s₁.heap s'.heap/\s'.os=s₁.os/\AllBare s'.gens) s₁) :
  WalkO q loose XP YP l.row.toRowW d [] (fun f vs=>PySem.call f vs):=by
 intro w s₀ s₁ mg mb G Y fa o pm cd doc dV kV ho hd hcd hD hmg hg args vals as hpre hlay hrd hwl hlo
 obtain rfl:dV = .none:=Dflts.none hD hdf
 obtain rfl:kV = .none:=Dflts.noKw hD
 obtain ⟨a,vs,ns,rfl,rfl,hobj,hints,hlen⟩:=a4j hn hpre hwl;refine enter_call (codeAny_mono (call w s₀ s₁ mg mb fa o pm cd doc a vs ns G Y ho (fd_plain hd) hcd hmg hobj hints hlen (a4T hlay) hg) fun r s' hq=>?_);obtain ⟨rfl,h2,h3,h4⟩:=hq;exact ⟨.inl ⟨.bool true,.bool true,[],rfl,fun _=>rfl,.bool true,a4K l _,fun _=>⟨List.Pairwise.nil,fun _ hm=>(nomatch hm)⟩⟩,h2,h3,h4⟩
end Att
namespace DL
open PySem PySem.Spec L2 PySem.W PyProof.Rows
theorem walkD{l:OpenLaw}{n k:Nat}{q:Program}{loose:List Str}{XP:(Str->Option Value)->Heap->Prop}{YP:World->Heap->Prop}{d:DefRec}{K:Params->PySem.W.Frag}{S:DSp}{x:Str}
  (hn:l.most=some n) (hn2:n <= sizeLine) (hdf:d.params.defaults=[]) (hr:Room k callerA)
  (hY:∀ (w:World) (h:Heap),YP w h->(K w.params).In h)
  (F:∀ (w:World) (mg:Str->Option Value) (fa:Addr) (h:Heap),(K w.params).In h->h.Ns mainGlobals mg->mg d.name=some (.ref fa) ->
   ∃ fd:FuncData,(∀ (s:Shared) (u:Value),BindsTo s fd ⟨[u],[]⟩ [(x,u)]) /\
    ∀ base:Heap,(K w.params).In base->base.Ns mainGlobals mg->t8 l.prog w (K w.params) mg base CX0 k fa fd [x] (spD (K w.params) 1 S))
  (hS:∀ ns:List Int,ns.length <= n->(∀ x ∈ ns,Builtin.Int.intBits x <= 1048576)->S [.scr (ns.map D.int)] [] (fun v _=>v = .bl true)) :
  WalkO q loose XP YP l.row.toRowW d [] (fun f vs=>PySem.call f vs):=by
 refine Att.attach_call2 hn hdf fun w s₀ s₁ mg mb fa o pm cd doc a vs ns G Y ho hd hcd hmg hobj hints hlen hbits hg=>?_;have KX:=hY w _ Y;obtain ⟨fd,hb,hF⟩:=F w mg fa _ KX G.T.g hmg;refine L2.law_call KX G.T.g G.T.b G.T.builtins G.T.nolimit hg hobj hints (Nat.le_trans hlen hn2) hr hF hb (fun H hO hS'=>?_) fun H e s' z=>z;refine ⟨[],[],[],[.scr (ns.map D.int)],_,⟨rfl,List.nodup_nil,fun p hp=>(nomatch hp),fun i o e=>?_⟩,.cons (.scr (a:=a) (us:=ns.map V.int) ?_ (RelDs.ints ns)) .nil,rfl,hS ns hlen hbits,fun d h' α' H' v a b c r=>?_⟩
 ·simp at e
 ·rcases hS' with h | h
  ·exact .inl ⟨fun z=>(nomatch z),fun z=>(nomatch z),h⟩
  ·exact .inr h
 ·have a:d = .bl true:=a;subst a
  cases r;rfl
end DL
namespace DL
open PySem PySem.Spec L2
mutual
def nrD:D->Bool
 |.tup xs=>B0 xs
 |.lst xs=>B0 xs
 |.scr xs=>B0 xs
 |.ref _=>false
 |_=>true
def B0:List D->Bool
 |[]=>true
 |d :: ds=>nrD d && B0 ds
end
def nrO:O->Bool
 |.lst xs=>B0 xs
 |.dT _ kvs=>B0 (kvs.map (·.2))
 |.dK kvs=>B0 (kvs.map (·.2))
 |.ins _ fs=>B0 (fs.map (·.2))
mutual
inductive Vw(n:Nat)(h:Hh):D->D->Prop
 |nr {d:D}:nrD d=true->Vw n h d d
 |old {i:Nat}:i < n->Vw n h (.ref i) (.ref i)
 |opn {i:Nat} {xs ys:List D}:n <= i->h[i]?=some (.lst xs)->Vws n h xs ys->Vw n h (.ref i) (.lst ys)
 |tup {xs ys:List D}:Vws n h xs ys->Vw n h (.tup xs) (.tup ys)
 |lst {xs ys:List D}:Vws n h xs ys->Vw n h (.lst xs) (.lst ys)
inductive Vws(n:Nat)(h:Hh):List D->List D->Prop
 |nil:Vws n h [] []
 |cons {d e:D} {ds es:List D}:Vw n h d e->Vws n h ds es->Vws n h (d :: ds) (e :: es)
end
section
variable {K:PySem.W.Frag} {π α β:List Addr} {H H':Hp} {h:Hh}
theorem VT.less{a:Addr}{us:List V}(t:VT ⟨K,π⟩ (α ++ β) H a us):VT ⟨K,π⟩ α H a us:=⟨fun z=>t.1 (List.mem_append_left _ z),t.2⟩
theorem VS.less{a:Addr}{us:List V}(t:VS ⟨K,π⟩ (α ++ β) H a us):VS ⟨K,π⟩ α H a us:=by
 rcases t with ⟨n,m,t⟩ | t
 ·exact .inl ⟨fun z=>n (List.mem_append_left _ z),m,t⟩
 ·exact .inr t
theorem VL.less{a:Addr}{us:List V}(t:VL ⟨K,π⟩ (α ++ β) H a us):VL ⟨K,π⟩ α H a us:=⟨fun z=>t.1 (List.mem_append_left _ z),t.2⟩
theorem VE.less{a:Addr}{u:HO}(t:VE ⟨K,π⟩ (α ++ β) H a u):VE ⟨K,π⟩ α H a u:=⟨fun z=>t.1 (List.mem_append_left _ z),t.2⟩
theorem O6{x:D}{r:List D}(e:B0 (x :: r)=true):nrD x=true/\B0 r=true:=by
 have e:(nrD _ && B0 _)=true:=e;rw [Bool.and_eq_true] at e;exact e
theorem RelD.nr{d:D}{v:V}(e:nrD d=true)(r:RelD ⟨K,π⟩ (α ++ β) H d v):RelD ⟨K,π⟩ α H d v :=
 RelD.rec (motive_1:=fun d v _=>nrD d=true->RelD ⟨K,π⟩ α H d v) (motive_2:=fun ds us _=>B0 ds=true->RelDs ⟨K,π⟩ α H ds us) (fun _=>.non) (fun b _=>.bl b) (fun i _=>.int i) (fun x _=>.str x) (fun t _ h e=>.tup t.less (h e)) (fun t _ h e=>.lst t.less (h e)) (fun t _ h e=>.scr t.less (h e)) (fun _ e=>nomatch e) (fun n t r _=>.exc n t.less (r.map fun _ _ z=>z.less)) (fun _=>.nil) (fun _ _ h t e=>.cons (h (O6 e).1) (t (O6 e).2)) r e
theorem RelDs.nr{ds:List D}{vs:List V}(e:B0 ds=true)(r:RelDs ⟨K,π⟩ (α ++ β) H ds vs):RelDs ⟨K,π⟩ α H ds vs:=by
 induction ds generalizing vs with
 |nil=>cases r;exact .nil
 |cons d ds ih=>cases r with | cons h t=>exact .cons (h.nr (O6 e).1) (ih (O6 e).2 t)
mutual
def rfD(n:Nat):D->Bool
 |.tup xs=>a1K n xs
 |.lst xs=>a1K n xs
 |.scr xs=>a1K n xs
 |.ref i=>decide (i < n)
 |_=>true
def a1K(n:Nat):List D->Bool
 |[]=>true
 |x :: r=>rfD n x && a1K n r
end
theorem RelD.rf{d:D}{v:V}(r:RelD ⟨K,π⟩ α H d v):rfD α.length d=true :=
 RelD.rec (motive_1:=fun d _ _=>rfD α.length d=true) (motive_2:=fun ds _ _=>a1K α.length ds=true) rfl (fun _=>rfl) (fun _=>rfl) (fun _=>rfl) (fun _ _ h=>h) (fun _ _ h=>h) (fun _ _ h=>h) (fun h=>decide_eq_true (List.getElem?_eq_some_iff.mp h).1) (fun _ _ _=>rfl) rfl (fun _ _ h t=>Bool.and_eq_true_iff.mpr ⟨h,t⟩) r
theorem RelDs.rf{ds:List D}{vs:List V}(r:RelDs ⟨K,π⟩ α H ds vs):a1K α.length ds=true:=by
 induction ds generalizing vs with
 |nil=>rfl
 |cons d ds ih=>cases r with | cons h t=>exact Bool.and_eq_true_iff.mpr ⟨h.rf,ih t⟩
theorem RelD.old2{d:D}{v:V}(e:rfD α.length d=true)(r:RelD ⟨K,π⟩ (α ++ β) H d v):RelD ⟨K,π⟩ α H d v :=
 RelD.rec (motive_1:=fun d v _=>rfD α.length d=true->RelD ⟨K,π⟩ α H d v) (motive_2:=fun ds us _=>a1K α.length ds=true->RelDs ⟨K,π⟩ α H ds us) (fun _=>.non) (fun b _=>.bl b) (fun i _=>.int i) (fun x _=>.str x) (fun t _ h e=>.tup t.less (h e)) (fun t _ h e=>.lst t.less (h e)) (fun t _ h e=>.scr t.less (h e)) (fun h1 e=>.ref (by rw [List.getElem?_append_left (of_decide_eq_true e)] at h1;exact h1)) (fun n t r _=>.exc n t.less (r.map fun _ _ z=>z.less)) (fun _=>.nil) (fun _ _ h t e=>.cons (h (Bool.and_eq_true_iff.mp e).1) (t (Bool.and_eq_true_iff.mp e).2)) r e
theorem RelDs.old2{ds:List D}{vs:List V}(e:a1K α.length ds=true)(r:RelDs ⟨K,π⟩ (α ++ β) H ds vs):RelDs ⟨K,π⟩ α H ds vs:=by
 induction ds generalizing vs with
 |nil=>cases r;exact .nil
 |cons d ds ih=>cases r with | cons h t=>exact .cons (h.old2 (Bool.and_eq_true_iff.mp e).1) (ih (Bool.and_eq_true_iff.mp e).2 t)
theorem RelD.old{d:D}{v v0:V}(r0:RelD ⟨K,π⟩ α H d v0)(r:RelD ⟨K,π⟩ (α ++ β) H' d v):RelD ⟨K,π⟩ α H' d v:=r.old2 r0.rf
theorem RelDs.old{ds:List D}{vs vs0:List V}(r0:RelDs ⟨K,π⟩ α H ds vs0)(r:RelDs ⟨K,π⟩ (α ++ β) H' ds vs):RelDs ⟨K,π⟩ α H' ds vs:=r.old2 r0.rf
theorem RelKV.old{κ:Type}{ds:List (κ×D)}{vs vs0:List (κ×V)}(r0:RelKV ⟨K,π⟩ α H ds vs0)(r:RelKV ⟨K,π⟩ (α ++ β) H' ds vs):RelKV ⟨K,π⟩ α H' ds vs:=by
 induction r0 generalizing vs with
 |nil=>cases r;exact .nil
 |cons r0 _ ih=>cases r with | cons r t=>exact .cons (RelD.old r0 r) (ih t)
theorem RelKV.nr{κ:Type}{ds:List (κ×D)}{vs:List (κ×V)}(e:B0 (ds.map (·.2))=true)(r:RelKV ⟨K,π⟩ (α ++ β) H ds vs):RelKV ⟨K,π⟩ α H ds vs:=by
 induction r with
 |nil=>exact .nil
 |cons r _ ih =>
  have e:(nrD _ && B0 _)=true:=e;rw [Bool.and_eq_true] at e;exact .cons (RelD.nr e.1 r) (ih e.2)
theorem RelO'.nr{p:Addr}{o:O}(e:nrO o=true)(r:RelO' ⟨K,π⟩ (α ++ β) H p o):RelO' ⟨K,π⟩ α H p o:=by
 cases r with
 |lst h t=>exact .lst h (t.nr e)
 |dT h t=>exact .dT h (t.nr e)
 |dK h t=>exact .dK h (t.nr e)
 |ins n h t=>exact .ins n h (t.nr e)
theorem RelO'.old{p p0:Addr}{o:O}(r0:RelO' ⟨K,π⟩ α H p0 o)(r:RelO' ⟨K,π⟩ (α ++ β) H' p o):RelO' ⟨K,π⟩ α H' p o:=by
 cases r0 with
 |lst h0 t0=>cases r with | lst h t=>exact .lst h (t0.old t)
 |dT h0 t0=>cases r with | dT h t=>exact .dT h (t0.old t)
 |dK h0 t0=>cases r with | dK h t=>exact .dK h (t0.old t)
 |ins n0 h0 t0=>cases r with | ins n h t=>exact .ins n h (t0.old t)
theorem Vw.rel(R:HRel ⟨K,π⟩ (α ++ β) H h){n:Nat}(hn:α.length=n){d e:D}{v:V}(w:Vw n h d e)(r:RelD ⟨K,π⟩ (α ++ β) H d v):RelD ⟨K,π⟩ α H e v:=by
 refine Vw.rec (motive_1:=fun d e _=>∀ v,RelD ⟨K,π⟩ (α ++ β) H d v->RelD ⟨K,π⟩ α H e v) (motive_2:=fun ds es _=>∀ vs,RelDs ⟨K,π⟩ (α ++ β) H ds vs->RelDs ⟨K,π⟩ α H es vs) (fun e v r=>r.nr e) ?_ ?_ ?_ ?_ ?_ ?_ w v r
 ·intro i hi v r
  cases r with
  |ref hp=>exact .ref (by rw [List.getElem?_append_left (by omega)] at hp;exact hp)
 ·intro i xs ys hi e _ ih v r
  cases r with
  |ref hp =>
  obtain ⟨us,e2,e3⟩:=a2B R hp e;have hm:=List.mem_of_getElem? hp;refine .lst ⟨fun z=>?_,fun z=>(R.dis _ z).1 hm,e2⟩ (ih _ e3);obtain ⟨j,hj,ej⟩:=List.getElem_of_mem z;subst ej;have q:(α ++ β)[j]?=some α[j]:=by rw [List.getElem?_append_left hj,List.getElem?_eq_getElem hj]
  have:=(List.getElem?_inj (List.getElem?_eq_some_iff.mp hp).1 R.nd).mp (hp.trans q.symm)
  omega
 ·intro xs ys _ ih v r
  cases r with
  |tup q r=>exact .tup q.less (ih _ r)
 ·intro xs ys _ ih v r
  cases r with
  |lst q r=>exact .lst q.less (ih _ r)
 ·intro vs r
  cases r;exact .nil
 ·intro d e ds es _ _ h1 h2 vs r
  cases r with
  |cons r s=>exact .cons (h1 _ r) (h2 _ s)
end
def Dr(h:Hh)(Q:DK):DK:=fun d h'=>∃ h2 g d',h'=h2 ++ g/\h2.length=h.length/\(∀ (i:Nat) (o:O),h2[i]?=some o->h[i]?=some o\/nrO o=true)/\Vw h.length h' d d'/\Q d' h2
theorem Dr.rel{K:PySem.W.Frag}{π α α':List Addr}{H H':Hp}{h h':Hh}{Q:DK}{d:D}{v:V}(R:HRel ⟨K,π⟩ α H h)(e:Ext α H α' H')(R':HRel ⟨K,π⟩ α' H' h')(r:RelD ⟨K,π⟩ α' H' d v)(q:Dr h Q d h') :
  ∃ d' h2,Q d' h2/\Ext α H α H'/\HRel ⟨K,π⟩ α H' h2/\RelD ⟨K,π⟩ α H' d' v:=by
 obtain ⟨h2,g,d',rfl,hl,ho,vw,q⟩:=q;obtain ⟨⟨β,rfl,hb⟩,ek,ed⟩:=e;have hn:=R.len;refine ⟨d',h2,q,⟨⟨[],by simp,fun p hp=>nomatch hp⟩,ek,ed⟩,⟨by omega,?_,fun p hp=>?_,fun i o eo=>?_⟩,vw.rel R' hn r⟩
 ·exact R.nd
 ·exact ⟨fun z=>(R'.dis p hp).1 (List.mem_append_left _ z),(R'.dis p hp).2⟩
 ·have hi:i < h2.length:=(List.getElem?_eq_some_iff.mp eo).1;obtain ⟨p,ep,ro⟩:=R'.obj i o (by rw [List.getElem?_append_left hi];exact eo);refine ⟨p,by rw [List.getElem?_append_left (by omega)] at ep;exact ep,?_⟩
  rcases ho i o eo with z | z
  ·obtain ⟨p0,_,r0⟩:=R.obj i o z;exact r0.old ro
  ·exact ro.nr z
theorem B8{P:Program}{w:World}{K:PySem.W.Frag}{mg:Str->Option Value}{base:Heap}{x qual:Str}{st:Stmt}{f:Addr}{fd:FuncData}{N ps:List Str}{k:Nat}{b:DS}{g:DSp}(F:Fun K x qual st f fd)(S:j1 N ps (g8 st))
  (hb:∀ (cdv:Value) (A:Around) (outer:List Env) (s:Shared) (H:Hp) (E:XK),Room k (A.deeper (PyProof.Rows.envOfC qual (g8 st) s.heap.objs.size f cdv))->SSs (a1c CX0 P w K mg base N qual (g8 st) f cdv A outer s H E).nox (A9 st) b)
  (hg:∀ ds h Q,g ds h Q->m4 N.length b ds h (Dr h Q)):t8 P w K mg base CX0 (k + 1) f fd ps (spD K ps.length g):=by
 refine F.ok S (fun vs H Q E h=>?_) fun cdv A outer s H vs Q E hr h=>?_
 ·obtain ⟨π,α,h,ds,Q',R,r,l,_⟩:=h;rw [<- r.length,l]
 ·obtain ⟨π,α,h,ds,Q',R,r,l,q,kk⟩:=h;refine ⟨_,hb cdv A outer s H E hr,π,α,_,h,{ nx:=fun _ h'=>Dr h Q' .non h',rt:=Dr h Q' },R,V8 r,hg ds h Q' q,⟨fun _ h' α' H' σ' a b c _=>?_,fun d h' α' H' v a b c d'=>?_,fun _ _ _ _ _ a _ _ _=>a.elim,fun _ _ _ _ _ a _ _ _=>a.elim,fun _ _ _ _ _ _ _ a _ _ _=>a.elim⟩⟩
  ·obtain ⟨d',h2,q,e,R2,r2⟩:=a.rel R b c .non;exact kk d' h2 α H' .non q e R2 r2
  ·obtain ⟨d',h2,q,e,R2,r2⟩:=a.rel R b c d';exact kk d' h2 α H' v q e R2 r2
theorem p7{τ:Type}{g:τ->D}(hg:∀ x,nrD (g x)=true):∀ xs:List τ,B0 (xs.map g)=true
 |[]=>rfl
 |x :: r=>by
  show (nrD (g x) && B0 (r.map g))=true;rw [hg x,p7 hg r];rfl
theorem Vws.of{n:Nat}{h:Hh}:∀ {xs:List D},B0 xs=true->Vws n h xs xs
 |[],_=>.nil
 |x :: r,e=>by
  have e:(nrD x && B0 r)=true:=e;rw [Bool.and_eq_true] at e;exact .cons (.nr e.1) (Vws.of e.2)
theorem Vws.of_get{n:Nat}{h:Hh}:∀ {xs ys:List D},xs.length=ys.length->(∀ (i:Nat) (x y:D),xs[i]?=some x->ys[i]?=some y->Vw n h x y)->Vws n h xs ys
 |[],[],_,_=>.nil
 |x :: xs,y :: ys,e,k=>.cons (k 0 x y rfl rfl) (Vws.of_get (by simpa using e) fun i a b h1 h2=>k (i + 1) a b (by simpa using h1) (by simpa using h2))
theorem Dr.same{h:Hh}{Q:DK}{d:D}(e:nrD d=true)(q:Q d h):Dr h Q d h:=⟨h,[],d,by simp,rfl,fun _ _ e=>.inl e,.nr e,q⟩
theorem Dr.drop{h g:Hh}{Q:DK}{d:D}(e:nrD d=true)(q:Q d h):Dr h Q d (h ++ g):=⟨h,g,d,rfl,rfl,fun _ _ e=>.inl e,.nr e,q⟩
theorem Dr.dropL{h:Hh}{Q:DK}{xs:List D}{g1 g2:Hh}{k:Nat}(e:B0 xs=true)(hk:k=h.length + g1.length)(q:Q (.lst xs) h):Dr h Q (.ref k) (h ++ (g1 ++ .lst xs :: g2)):=by
 refine ⟨h,g1 ++ .lst xs :: g2,.lst xs,rfl,rfl,fun _ _ e=>.inl e,.opn (by omega) ?_ (.of e),q⟩;subst hk;rw [List.getElem?_append_right (by omega),show h.length + g1.length - h.length=g1.length by omega,List.getElem?_append_right (Nat.le_refl _)]
 simp
end DL
namespace DL
open PySem L2
theorem atN{α:Type}(xs:List α)(i:Nat):atI xs (i:Int)=xs[i]?:=by
 unfold atI ixN
 by_cases h:i < xs.length
 ·rw [if_pos (by omega),if_pos (by omega)];simp
 ·rw [if_pos (by omega),if_neg (by omega)]
  simp;omega
theorem E6{α:Type}(a:α)(l:List α):atI (a :: l) 0=some a:=atN _ 0
theorem a6o{α:Type}(a b:α)(l:List α):atI (a :: b :: l) 1=some b:=atN _ 1
theorem b3k{α:Type}(a b c d:α)(l:List α):atI (a :: b :: c :: d :: l) 3=some d:=atN _ 3
theorem c1t{α:Type}(a:α):atI [a] 0=some a:=rfl
theorem c1a{α:Type}(a b:α):atI [a,b] 0=some a:=rfl
theorem c1g{α:Type}(a b:α):atI [a,b] 1=some b:=rfl
theorem c1b{α:Type}(a b c:α):atI [a,b,c] 0=some a:=rfl
theorem c1o{α:Type}(a b c:α):atI [a,b,c] 1=some b:=rfl
theorem c0Q{α:Type}(a b c:α):atI [a,b,c] 2=some c:=rfl
theorem c0E{α:Type}(a b c d:α):atI [a,b,c,d] 0=some a:=rfl
theorem c0D{α:Type}(a b c d:α):atI [a,b,c,d] 1=some b:=rfl
theorem c0R{α:Type}(a b c d:α):atI [a,b,c,d] 2=some c:=rfl
theorem c0L{α:Type}(a b c d:α):atI [a,b,c,d] 3=some d:=rfl
theorem c0K{α:Type}(a b c d e:α):atI [a,b,c,d,e] 0=some a:=rfl
theorem c1n{α:Type}(a b c d e:α):atI [a,b,c,d,e] 1=some b:=rfl
theorem c1s{α:Type}(a b c d e:α):atI [a,b,c,d,e] 2=some c:=rfl
theorem c0O{α:Type}(a b c d e:α):atI [a,b,c,d,e] 3=some d:=rfl
theorem c1v{α:Type}(a b c d e:α):atI [a,b,c,d,e] 4=some e:=rfl
theorem c0X{α:Type}(a b c d e f:α):atI [a,b,c,d,e,f] 0=some a:=rfl
theorem c1j{α:Type}(a b c d e f:α):atI [a,b,c,d,e,f] 1=some b:=rfl
theorem c0M{α:Type}(a b c d e f:α):atI [a,b,c,d,e,f] 2=some c:=rfl
theorem c1m{α:Type}(a b c d e f:α):atI [a,b,c,d,e,f] 3=some d:=rfl
theorem c0G{α:Type}(a b c d e f:α):atI [a,b,c,d,e,f] 4=some e:=rfl
theorem c0Y{α:Type}(a b c d e f:α):atI [a,b,c,d,e,f] 5=some f:=rfl
theorem c0A{α:Type}(a b c d e f g:α):atI [a,b,c,d,e,f,g] 0=some a:=rfl
theorem c0Z{α:Type}(a b c d e f g:α):atI [a,b,c,d,e,f,g] 1=some b:=rfl
theorem c0J{α:Type}(a b c d e f g:α):atI [a,b,c,d,e,f,g] 2=some c:=rfl
theorem c0y{α:Type}(a b c d e f g:α):atI [a,b,c,d,e,f,g] 3=some d:=rfl
theorem c0z{α:Type}(a b c d e f g:α):atI [a,b,c,d,e,f,g] 4=some e:=rfl
theorem c0U{α:Type}(a b c d e f g:α):atI [a,b,c,d,e,f,g] 5=some f:=rfl
theorem c0C{α:Type}(a b c d e f g:α):atI [a,b,c,d,e,f,g] 6=some g:=rfl
theorem c1h{α:Type}(a b c d e f g i:α):atI [a,b,c,d,e,f,g,i] 0=some a:=rfl
theorem c0F{α:Type}(a b c d e f g i:α):atI [a,b,c,d,e,f,g,i] 1=some b:=rfl
theorem c0I{α:Type}(a b c d e f g i:α):atI [a,b,c,d,e,f,g,i] 2=some c:=rfl
theorem c1i{α:Type}(a b c d e f g i:α):atI [a,b,c,d,e,f,g,i] 3=some d:=rfl
theorem c1p{α:Type}(a b c d e f g i:α):atI [a,b,c,d,e,f,g,i] 4=some e:=rfl
theorem c0V{α:Type}(a b c d e f g i:α):atI [a,b,c,d,e,f,g,i] 5=some f:=rfl
theorem c1k{α:Type}(a b c d e f g i:α):atI [a,b,c,d,e,f,g,i] 6=some g:=rfl
theorem c0T{α:Type}(a b c d e f g i:α):atI [a,b,c,d,e,f,g,i] 7=some i:=rfl
theorem a0a{h:Hh}{d:D}{xs:List D}(e:A2 h d=some xs)(k:Int):ixD h d (.int k)=atI xs k:=by
 cases d with
 |lst ys=>cases e;rfl
 |scr ys=>cases e;rfl
 |ref i =>
  have e:(match h[i]? with | some (.lst xs)=>some xs | _=>none)=some xs:=e;show (match h[i]? with | some (.lst xs)=>atI xs k | _=>none)=atI xs k
  cases q:h[i]? with
  |none=>rw [q] at e;cases e
  |some o =>
   rw [q] at e
   cases o with
   |lst ys=>cases e;rfl
   |_=>cases e
 |_=>cases e
theorem Y0{h:Hh}{d:D}{xs:List D}(e:A2 h d=some xs):B6 h d=some xs:=by
 cases d with
 |lst ys=>exact e
 |scr ys=>exact e
 |ref i=>exact e
 |_=>cases e
theorem a0T{h:Hh}{d:D}{xs:List D}(e:A2 h d=some xs):T7 h d=some xs.length:=by
 have s:=Y0 e
 cases d with
 |lst ys=>cases e;rfl
 |scr ys=>cases e;rfl
 |ref i=>show (B6 h (.ref i)).map List.length=_;rw [s];rfl
 |_=>cases e
theorem a6K{h:Hh}{d:D}{xs:List D}(e:A2 h d=some xs):∃ w,A4 h d=some ⟨xs,w⟩/\(Src.mk xs w).ok h/\∀ p ∈ w,∃ i,d = .ref i/\p=(i,.lst xs):=by
 cases d with
 |lst ys=>cases e;exact ⟨[],rfl,Src.ok_nil,fun p hp=>nomatch hp⟩
 |scr ys=>cases e;exact ⟨[],rfl,Src.ok_nil,fun p hp=>nomatch hp⟩
 |ref i =>
  have e:(match h[i]? with | some (.lst xs)=>some xs | _=>none)=some xs:=e
  cases q:h[i]? with
  |none=>rw [q] at e;cases e
  |some o =>
   rw [q] at e
   cases o with
   |lst ys =>
    cases e;refine ⟨[(i,.lst xs)],?_,fun p hp=>?_,fun p hp=>⟨i,rfl,List.mem_singleton.mp hp⟩⟩
    ·show (match h[i]? with | some (.lst xs)=>some (Src.mk xs [(i,.lst xs)]) | _=>none)=_;rw [q]
    ·rw [List.mem_singleton.mp hp];exact q
   |_=>cases e
 |_=>cases e
def Pre(h h':Hh):Prop:=∀ (i:Nat) (o:O),h[i]?=some o->h'[i]?=some o
theorem Pre.app(h g:Hh):Pre h (h ++ g):=fun i o e=>by
 rw [List.getElem?_append_left (List.getElem?_eq_some_iff.mp e).1];exact e
theorem Pre.ls{h h':Hh}(p:Pre h h'){d:D}{xs:List D}(e:A2 h d=some xs):A2 h' d=some xs:=by
 cases d with
 |ref i =>
  have e:(match h[i]? with | some (.lst xs)=>some xs | _=>none)=some xs:=e;show (match h'[i]? with | some (.lst xs)=>some xs | _=>none)=some xs
  cases q:h[i]? with
  |none=>rw [q] at e;cases e
  |some o=>rw [q] at e;rw [p i o q];exact e
 |_=>exact e
theorem G3(h:Hh)(xs:List D):A2 (h ++ [.lst xs]) (.ref h.length)=some xs:=by
 show (match (h ++ [O.lst xs])[h.length]? with | some (.lst xs)=>some xs | _=>none)=some xs;rw [List.getElem?_append_right (Nat.le_refl _)];simp
theorem o5(h:Hh)(o:O):(h ++ [o])[h.length]?=some o:=by
 rw [List.getElem?_append_right (Nat.le_refl _)];simp
theorem p8(h:Hh)(o u:O):(h ++ [o]).set h.length u=h ++ [u]:=by
 rw [List.set_append_right _ _ (Nat.le_refl _)];simp
theorem n6{τ:Type}{S:Src}{t:DG}{b:DS}{E:M0}(P:List τ->Sl->Hh->Prop){g:τ->D}{ys:List τ}{δ:Sl}{h:Hh}(h0:P [] δ h)(ok:∀ p δ h,P p δ h->S.ok h)
  (hs:∀ (p:List τ) (y:τ) (r:List τ) (δ:Sl) (h:Hh) (N:Sl->Hh->Prop),ys=p ++ y :: r->P p δ h->(∀ δ h,P (p ++ [y]) δ h->N δ h)->t (g y) δ h fun δ2 h2=>b { E with nx:=N,ct:=N,bk:=E.nx } δ2 h2)
  (hd:∀ δ h,P ys δ h->E.nx δ h):a2m S t b E (ys.map g) δ h:=by
 have go:∀ (r p:List τ) δ h,ys=p ++ r->P p δ h->a2m S t b E (r.map g) δ h:=by
  intro r
  induction r with
  |nil=>intro p δ h e q;rw [List.append_nil] at e;subst e;exact ⟨ok _ _ _ q,hd _ _ q⟩
  |cons y r ih =>
   intro p δ h e q;exact ⟨ok _ _ _ q,hs p y r δ h _ e q fun δ3 h3 p3=>ih (p ++ [y]) δ3 h3 (by rw [e];simp) p3⟩
 exact go ys [] δ h rfl h0
theorem F6{τ:Type}{S:Src}{t:DG}{tf:DT}{te:DE}(P:List τ->List D->Sl->Hh->Prop){g:τ->D}{ys:List τ}{δ:Sl}{h:Hh}{Q:List D->Hh->Prop}(h0:P [] [] δ h)(ok:∀ p a δ h,P p a δ h->S.ok h)
  (hs:∀ (p:List τ) (y:τ) (r:List τ) (acc:List D) (δ:Sl) (h:Hh) (N:List D->Sl->Hh->Prop),ys=p ++ y :: r->P p acc δ h->(∀ a δ h,P (p ++ [y]) a δ h->N a δ h) ->
   t (g y) δ h fun δ2 h2=>tf δ2 h2 fun b h3=>if b=true then te δ2 h3 fun z h4=>N (acc ++ [z]) δ2 h4 else N acc δ2 h3)
  (hd:∀ a δ h,P ys a δ h->Q a h):L8 S t tf te (ys.map g) [] δ h Q:=by
 have go:∀ (r p:List τ) a δ h,ys=p ++ r->P p a δ h->L8 S t tf te (r.map g) a δ h Q:=by
  intro r
  induction r with
  |nil=>intro p a δ h e q;rw [List.append_nil] at e;subst e;exact ⟨ok _ _ _ _ q,hd _ _ _ q⟩
  |cons y r ih =>
   intro p a δ h e q;exact ⟨ok _ _ _ _ q,hs p y r a δ h (fun a δ h=>L8 S t tf te (r.map g) a δ h Q) e q fun a3 δ3 h3 p3=>ih (p ++ [y]) a3 δ3 h3 (by rw [e];simp) p3⟩
 exact go ys [] [] δ h rfl h0
theorem a5N{τ:Type}{S:Src}{tf:DT}{te:DE}{g:τ->D}{ys:List τ}{h:Hh}{fr:Sl}{Q:List D->Hh->Prop}(c:τ->Bool)(v:τ->D)(ok:S.ok h)(o:Option D)
  (htf:∀ y ∈ ys,∀ K:Bool->Hh->Prop,K (c y) h->tf (some (g y) :: fr) h K) (hte:∀ y ∈ ys,c y=true->∀ K:DK,K (v y) h->te (some (g y) :: fr) h K)
  (hd:Q ((ys.filter c).map v) h):L8 S (d5 0) tf te (ys.map g) [] (o :: fr) h Q:=by
 refine F6 (fun p a δ h'=>h'=h/\(∃ o,δ=o :: fr)/\a=(p.filter c).map v) ⟨rfl,⟨o,rfl⟩,rfl⟩ (fun p a δ h' q=>by rw [q.1];exact ok) ?_ ?_
 ·rintro p y r acc δ h' N e ⟨rfl,⟨o,rfl⟩,rfl⟩ hN
  have hy:y ∈ ys:=by rw [e];simp
  refine htf y hy _ ?_
  cases hc:c y with
  |true =>
   refine W7 (hte y hy hc _ (hN _ _ _ ⟨rfl,⟨_,rfl⟩,?_⟩))
   simp [List.filter_append,hc]
  |false =>
   refine Y2 (hN _ _ _ ⟨rfl,⟨_,rfl⟩,?_⟩)
   simp [List.filter_append,hc]
 ·rintro a δ h' ⟨rfl,_,rfl⟩
  exact hd
theorem z6{τ:Type}{S:Src}{te:DE}{g:τ->D}{ys:List τ}{h:Hh}{fr:Sl}{Q:List D->Hh->Prop}(v:τ->D)(ok:S.ok h)(o:Option D)
  (hte:∀ y ∈ ys,∀ K:DK,K (v y) h->te (some (g y) :: fr) h K) (hd:Q (ys.map v) h):L8 S (d5 0) y8 te (ys.map g) [] (o :: fr) h Q :=
 a5N (fun _=>true) v ok o (fun _ _ K k=>k) (fun y hy _=>hte y hy) ((show ys.filter (fun _=>true)=ys by simp).symm ▸ hd)
theorem u7(lo:Int):∀ n:Nat,z5 lo n=(List.range n).map fun i=>D.int (lo + (i:Nat)):=by
 intro n
 apply List.ext_getElem?
 intro i;rw [M5]
 by_cases h:i < n <;> simp [h]
theorem C4{τ:Type}(lo:Int)(g:τ->D)(ys:List τ):C8 lo (ys.map g)=ys.zipIdx.map fun p=>.tup [.int (lo + (p.2:Nat)),g p.1]:=by
 apply List.ext_getElem?
 intro i;rw [L4]
 simp [List.getElem?_zipIdx]
 cases ys[i]? <;> simp
theorem b9A:M4 .non=true:=rfl
theorem b9H(b:Bool):M4 (.bl b)=false:=rfl
theorem b9z(b:Int):M4 (.int b)=false:=rfl
theorem b9e(b:Str):M4 (.str b)=false:=rfl
theorem b9x(b:List D):M4 (.tup b)=false:=rfl
theorem b9f(b:List D):M4 (.lst b)=false:=rfl
theorem b9y(b:Nat):M4 (.ref b)=false:=rfl
theorem b7z(h:Hh)(xs:List D):A2 h (.lst xs)=some xs:=rfl
theorem b7b(h:Hh)(xs:List D):B6 h (.lst xs)=some xs:=rfl
theorem b4e(h:Hh)(xs:List D):A4 h (.lst xs)=some ⟨xs,[]⟩:=rfl
theorem b8O(h:Hh)(xs:List D):T7 h (.lst xs)=some xs.length:=rfl
theorem b9g(h:Hh)(xs:List D)(i:Int):ixD h (.lst xs) (.int i)=atI xs i:=rfl
theorem b9u(h:Hh)(xs:List D):trD h (.lst xs)=some (!xs.isEmpty):=rfl
theorem b7F(h:Hh)(xs:List D):A2 h (.scr xs)=some xs:=rfl
theorem b6Z(h:Hh)(xs:List D):B6 h (.scr xs)=some xs:=rfl
theorem b5M(h:Hh)(xs:List D):A4 h (.scr xs)=some ⟨xs,[]⟩:=rfl
theorem b9c(h:Hh)(xs:List D):T7 h (.scr xs)=some xs.length:=rfl
theorem b9p(h:Hh)(xs:List D)(i:Int):ixD h (.scr xs) (.int i)=atI xs i:=rfl
theorem b9r(h:Hh)(xs:List D):trD h (.scr xs)=some (!xs.isEmpty):=rfl
theorem b9m(h:Hh)(xs:List D):lsP h (.lst xs)=some xs:=rfl
theorem b9l(h:Hh)(xs:List D):lsP h (.tup xs)=none:=rfl
theorem b9k(h:Hh)(x:Int):lsP h (.int x)=none:=rfl
theorem b9t(h:Hh)(x:Str):lsP h (.str x)=none:=rfl
theorem b7g(h:Hh)(xs:List D):B6 h (.tup xs)=some xs:=rfl
theorem b6H(h:Hh)(xs:List D):A4 h (.tup xs)=some ⟨xs,[]⟩:=rfl
theorem b8q(h:Hh)(xs:List D):T7 h (.tup xs)=some xs.length:=rfl
theorem b9q(h:Hh)(xs:List D)(i:Int):ixD h (.tup xs) (.int i)=atI xs i:=rfl
theorem b9i(h:Hh)(xs:List D):trD h (.tup xs)=some (!xs.isEmpty):=rfl
theorem b9j(h:Hh):trD h .non=some false:=rfl
theorem b9Z(h:Hh)(b:Bool):trD h (.bl b)=some b:=rfl
theorem b9v(h:Hh)(i:Int):trD h (.int i)=some (i != 0):=rfl
theorem b6U(h:Hh) :E5 h (.non)=some "NoneType":=rfl
theorem b8h(h:Hh)(x:Bool):E5 h (.bl x)=some "bool":=rfl
theorem b7e(h:Hh)(x:Int):E5 h (.int x)=some "int":=rfl
theorem b6S(h:Hh)(x:Str):E5 h (.str x)=some "str":=rfl
theorem b6X(h:Hh)(x:List D):E5 h (.tup x)=some "tuple":=rfl
theorem b6W(h:Hh)(x:List D):E5 h (.lst x)=some "list":=rfl
theorem a2Q:j3 "NoneType" "bool" = false:=rfl
theorem a4z:j3 "NoneType" "int" = false:=rfl
theorem a4E:j3 "NoneType" "str" = false:=rfl
theorem a2F:j3 "NoneType" "tuple" = false:=rfl
theorem a3M:j3 "NoneType" "list" = false:=rfl
theorem a2N:j3 "NoneType" "dict" = false:=rfl
theorem a8U:j3 "bool" "bool" = true:=rfl
theorem b1I:j3 "bool" "int" = true:=rfl
theorem b0l:j3 "bool" "str" = false:=rfl
theorem a7J:j3 "bool" "tuple" = false:=rfl
theorem a9q:j3 "bool" "list" = false:=rfl
theorem a8Y:j3 "bool" "dict" = false:=rfl
theorem b2c:j3 "int" "bool" = false:=rfl
theorem b2L:j3 "int" "int" = true:=rfl
theorem b2q:j3 "int" "str" = false:=rfl
theorem a9x:j3 "int" "tuple" = false:=rfl
theorem b0N:j3 "int" "list" = false:=rfl
theorem b1U:j3 "int" "dict" = false:=rfl
theorem b0R:j3 "str" "bool" = false:=rfl
theorem b2p:j3 "str" "int" = false:=rfl
theorem b2r:j3 "str" "str" = true:=rfl
theorem a8x:j3 "str" "tuple" = false:=rfl
theorem b0J:j3 "str" "list" = false:=rfl
theorem b0I:j3 "str" "dict" = false:=rfl
theorem a7b:j3 "tuple" "bool" = false:=rfl
theorem a8E:j3 "tuple" "int" = false:=rfl
theorem a9f:j3 "tuple" "str" = false:=rfl
theorem a5h:j3 "tuple" "tuple" = true:=rfl
theorem a8s:j3 "tuple" "list" = false:=rfl
theorem a7n:j3 "tuple" "dict" = false:=rfl
theorem a8V:j3 "list" "bool" = false:=rfl
theorem a9Q:j3 "list" "int" = false:=rfl
theorem a9B:j3 "list" "str" = false:=rfl
theorem a5T:j3 "list" "tuple" = false:=rfl
theorem a9v:j3 "list" "list" = true:=rfl
theorem a8J:j3 "list" "dict" = false:=rfl
theorem a9p:j3 "dict" "bool" = false:=rfl
theorem b1G:j3 "dict" "int" = false:=rfl
theorem b0o:j3 "dict" "str" = false:=rfl
theorem a6u:j3 "dict" "tuple" = false:=rfl
theorem a8K:j3 "dict" "list" = false:=rfl
theorem a9e:j3 "dict" "dict" = true:=rfl
theorem D3{h:Hh}{i:Nat}{xs:List D}(e:h[i]?=some (.lst xs)):A2 h (.ref i)=some xs:=by show (match h[i]? with | some (.lst xs)=>some xs | _=>none)=_;rw [e]
theorem D6{h:Hh}{i:Nat}{xs:List D}(e:h[i]?=some (.lst xs)):A4 h (.ref i)=some ⟨xs,[(i,.lst xs)]⟩:=by show (match h[i]? with | some (.lst xs)=>some (Src.mk xs [(i,.lst xs)]) | _=>none)=_;rw [e]
theorem c1f(n:Nat):ixN (n + 1) 0=some 0:=by unfold ixN;rw [if_pos (by decide),if_pos (by omega)];rfl
theorem b9V:ixN 1 0=some 0:=rfl
theorem a3f{n i:Nat}(h:i < n):ixN n (i:Int)=some i:=by unfold ixN;rw [if_pos (by omega),if_pos (by omega)];simp
theorem y6{n d:Nat}{p r:List Nat}(e:List.range n=p ++ d :: r):d=p.length/\d < n:=by
 have h9:p.length < n:=by
  have:p.length < (List.range n).length:=by rw [e];simp
  simpa using this
 have h8:(List.range n)[p.length]?=some d:=by rw [e];simp
 rw [List.getElem?_range h9] at h8
 cases h8;exact ⟨rfl,h9⟩
theorem L0{f g:DS}{E:M0}{δ:Sl}{h:Hh}(k:∀ N:Sl->Hh->Prop,N=g E->f { E with nx:=N } δ h):d9 f g E δ h:=k _ rfl
theorem Y1{t:DT}{a b:DS}{E:M0}{δ:Sl}{h:Hh}(k:∀ A B:Sl->Hh->Prop,A=a E->B=b E->t δ h fun c h1=>if c=true then A δ h1 else B δ h1):m5 t a b E δ h:=k _ _ rfl rfl
theorem Q0{c:Bool}{A B:Prop}(h1:c=true->A)(h2:c=false->B):if c=true then A else B:=by
 cases c with
 |true=>exact W7 (h1 rfl)
 |false=>exact Y2 (h2 rfl)
theorem Q1{i j:Int}(h:-(2 ^ 64) < i/\i < 2 ^ 64):IntMulOk i j:=.of_left (intBits_le_64 h.1 h.2)
theorem b7k{i j:Int}(h:-(2 ^ 64) < j/\j < 2 ^ 64):IntMulOk i j:=.of_right (intBits_le_64 h.1 h.2)
end DL
namespace CM
open PySem L2 DL
theorem b9n:PyData.strOk (Str.ofString "step")=true:=by decide +kernel
theorem b2k:((Str.ofString "step") == (Str.ofString "step"))=true:=by decide +kernel
theorem b0H:((Str.ofString "step") == (Str.ofString "call"))=false:=by decide +kernel
theorem b5d:((Str.ofString "step") == (Str.ofString "in"))=false:=by decide +kernel
theorem b2m:((Str.ofString "step") == (Str.ofString "over"))=false:=by decide +kernel
theorem a9w:((Str.ofString "step") == (Str.ofString "begin"))=false:=by decide +kernel
theorem a8w:((Str.ofString "step") == (Str.ofString "start"))=false:=by decide +kernel
theorem a8Q:((Str.ofString "step") == (Str.ofString "short"))=false:=by decide +kernel
theorem a8M:((Str.ofString "step") == (Str.ofString "along"))=false:=by decide +kernel
theorem a8e:((Str.ofString "step") == (Str.ofString "within"))=false:=by decide +kernel
theorem b4c:((Str.ofString "step") == (Str.ofString "at"))=false:=by decide +kernel
theorem b3e:((Str.ofString "step") == (Str.ofString "out"))=false:=by decide +kernel
theorem b9w:PyData.strOk (Str.ofString "call")=true:=by decide +kernel
theorem b1T:((Str.ofString "call") == (Str.ofString "step"))=false:=by decide +kernel
theorem b0C:((Str.ofString "call") == (Str.ofString "call"))=true:=by decide +kernel
theorem b5A:((Str.ofString "call") == (Str.ofString "in"))=false:=by decide +kernel
theorem a9U:((Str.ofString "call") == (Str.ofString "over"))=false:=by decide +kernel
theorem a8F:((Str.ofString "call") == (Str.ofString "begin"))=false:=by decide +kernel
theorem a8z:((Str.ofString "call") == (Str.ofString "start"))=false:=by decide +kernel
theorem a8N:((Str.ofString "call") == (Str.ofString "short"))=false:=by decide +kernel
theorem a8R:((Str.ofString "call") == (Str.ofString "along"))=false:=by decide +kernel
theorem a7y:((Str.ofString "call") == (Str.ofString "within"))=false:=by decide +kernel
theorem b4s:((Str.ofString "call") == (Str.ofString "at"))=false:=by decide +kernel
theorem b3g:((Str.ofString "call") == (Str.ofString "out"))=false:=by decide +kernel
theorem c1e:PyData.strOk (Str.ofString "in")=true:=by decide +kernel
theorem b3P:((Str.ofString "in") == (Str.ofString "step"))=false:=by decide +kernel
theorem b5b:((Str.ofString "in") == (Str.ofString "call"))=false:=by decide +kernel
theorem b8W:((Str.ofString "in") == (Str.ofString "in"))=true:=by decide +kernel
theorem b6v:((Str.ofString "in") == (Str.ofString "over"))=false:=by decide +kernel
theorem b2Z:((Str.ofString "in") == (Str.ofString "begin"))=false:=by decide +kernel
theorem b2F:((Str.ofString "in") == (Str.ofString "start"))=false:=by decide +kernel
theorem b3t:((Str.ofString "in") == (Str.ofString "short"))=false:=by decide +kernel
theorem b2z:((Str.ofString "in") == (Str.ofString "along"))=false:=by decide +kernel
theorem b1B:((Str.ofString "in") == (Str.ofString "within"))=false:=by decide +kernel
theorem b8B:((Str.ofString "in") == (Str.ofString "at"))=false:=by decide +kernel
theorem b7d:((Str.ofString "in") == (Str.ofString "out"))=false:=by decide +kernel
theorem b9h:PyData.strOk (Str.ofString "over")=true:=by decide +kernel
theorem b0b:((Str.ofString "over") == (Str.ofString "step"))=false:=by decide +kernel
theorem a9F:((Str.ofString "over") == (Str.ofString "call"))=false:=by decide +kernel
theorem b4S:((Str.ofString "over") == (Str.ofString "in"))=false:=by decide +kernel
theorem b0e:((Str.ofString "over") == (Str.ofString "over"))=true:=by decide +kernel
theorem a8y:((Str.ofString "over") == (Str.ofString "begin"))=false:=by decide +kernel
theorem a8T:((Str.ofString "over") == (Str.ofString "start"))=false:=by decide +kernel
theorem a8X:((Str.ofString "over") == (Str.ofString "short"))=false:=by decide +kernel
theorem a8C:((Str.ofString "over") == (Str.ofString "along"))=false:=by decide +kernel
theorem a7l:((Str.ofString "over") == (Str.ofString "within"))=false:=by decide +kernel
theorem b3Y:((Str.ofString "over") == (Str.ofString "at"))=false:=by decide +kernel
theorem b2I:((Str.ofString "over") == (Str.ofString "out"))=false:=by decide +kernel
theorem b8j:PyData.strOk (Str.ofString "begin")=true:=by decide +kernel
theorem a9c:((Str.ofString "begin") == (Str.ofString "step"))=false:=by decide +kernel
theorem a8I:((Str.ofString "begin") == (Str.ofString "call"))=false:=by decide +kernel
theorem b2u:((Str.ofString "begin") == (Str.ofString "in"))=false:=by decide +kernel
theorem a8G:((Str.ofString "begin") == (Str.ofString "over"))=false:=by decide +kernel
theorem a7P:((Str.ofString "begin") == (Str.ofString "begin"))=true:=by decide +kernel
theorem a6y:((Str.ofString "begin") == (Str.ofString "start"))=false:=by decide +kernel
theorem a5M:((Str.ofString "begin") == (Str.ofString "short"))=false:=by decide +kernel
theorem a6v:((Str.ofString "begin") == (Str.ofString "along"))=false:=by decide +kernel
theorem a5l:((Str.ofString "begin") == (Str.ofString "within"))=false:=by decide +kernel
theorem b2T:((Str.ofString "begin") == (Str.ofString "at"))=false:=by decide +kernel
theorem b1Q:((Str.ofString "begin") == (Str.ofString "out"))=false:=by decide +kernel
theorem b7A:PyData.strOk (Str.ofString "start")=true:=by decide +kernel
theorem a9k:((Str.ofString "start") == (Str.ofString "step"))=false:=by decide +kernel
theorem a9i:((Str.ofString "start") == (Str.ofString "call"))=false:=by decide +kernel
theorem b3r:((Str.ofString "start") == (Str.ofString "in"))=false:=by decide +kernel
theorem a9s:((Str.ofString "start") == (Str.ofString "over"))=false:=by decide +kernel
theorem a7Y:((Str.ofString "start") == (Str.ofString "begin"))=false:=by decide +kernel
theorem a6A:((Str.ofString "start") == (Str.ofString "start"))=true:=by decide +kernel
theorem a5x:((Str.ofString "start") == (Str.ofString "short"))=false:=by decide +kernel
theorem a7K:((Str.ofString "start") == (Str.ofString "along"))=false:=by decide +kernel
theorem a5q:((Str.ofString "start") == (Str.ofString "within"))=false:=by decide +kernel
theorem b2w:((Str.ofString "start") == (Str.ofString "at"))=false:=by decide +kernel
theorem a9D:((Str.ofString "start") == (Str.ofString "out"))=false:=by decide +kernel
theorem b7I:PyData.strOk (Str.ofString "short")=true:=by decide +kernel
theorem a9h:((Str.ofString "short") == (Str.ofString "step"))=false:=by decide +kernel
theorem a8W:((Str.ofString "short") == (Str.ofString "call"))=false:=by decide +kernel
theorem b3f:((Str.ofString "short") == (Str.ofString "in"))=false:=by decide +kernel
theorem a8S:((Str.ofString "short") == (Str.ofString "over"))=false:=by decide +kernel
theorem a6j:((Str.ofString "short") == (Str.ofString "begin"))=false:=by decide +kernel
theorem a8d:((Str.ofString "short") == (Str.ofString "start"))=false:=by decide +kernel
theorem a6V:((Str.ofString "short") == (Str.ofString "short"))=true:=by decide +kernel
theorem a8c:((Str.ofString "short") == (Str.ofString "along"))=false:=by decide +kernel
theorem a5g:((Str.ofString "short") == (Str.ofString "within"))=false:=by decide +kernel
theorem b2s:((Str.ofString "short") == (Str.ofString "at"))=false:=by decide +kernel
theorem b0K:((Str.ofString "short") == (Str.ofString "out"))=false:=by decide +kernel
theorem b8K:PyData.strOk (Str.ofString "along")=true:=by decide +kernel
theorem a9a:((Str.ofString "along") == (Str.ofString "step"))=false:=by decide +kernel
theorem a9r:((Str.ofString "along") == (Str.ofString "call"))=false:=by decide +kernel
theorem b2S:((Str.ofString "along") == (Str.ofString "in"))=false:=by decide +kernel
theorem a8D:((Str.ofString "along") == (Str.ofString "over"))=false:=by decide +kernel
theorem a7k:((Str.ofString "along") == (Str.ofString "begin"))=false:=by decide +kernel
theorem a6O:((Str.ofString "along") == (Str.ofString "start"))=false:=by decide +kernel
theorem a5y:((Str.ofString "along") == (Str.ofString "short"))=false:=by decide +kernel
theorem a7Z:((Str.ofString "along") == (Str.ofString "along"))=true:=by decide +kernel
theorem a5e:((Str.ofString "along") == (Str.ofString "within"))=false:=by decide +kernel
theorem b3l:((Str.ofString "along") == (Str.ofString "at"))=false:=by decide +kernel
theorem b0W:((Str.ofString "along") == (Str.ofString "out"))=false:=by decide +kernel
theorem b6Y:PyData.strOk (Str.ofString "within")=true:=by decide +kernel
theorem a5C:((Str.ofString "within") == (Str.ofString "step"))=false:=by decide +kernel
theorem a6g:((Str.ofString "within") == (Str.ofString "call"))=false:=by decide +kernel
theorem b1f:((Str.ofString "within") == (Str.ofString "in"))=false:=by decide +kernel
theorem a6L:((Str.ofString "within") == (Str.ofString "over"))=false:=by decide +kernel
theorem a5n:((Str.ofString "within") == (Str.ofString "begin"))=false:=by decide +kernel
theorem a5a:((Str.ofString "within") == (Str.ofString "start"))=false:=by decide +kernel
theorem a5c:((Str.ofString "within") == (Str.ofString "short"))=false:=by decide +kernel
theorem a5d:((Str.ofString "within") == (Str.ofString "along"))=false:=by decide +kernel
theorem a4I:((Str.ofString "within") == (Str.ofString "within"))=true:=by decide +kernel
theorem a9E:((Str.ofString "within") == (Str.ofString "at"))=false:=by decide +kernel
theorem a9n:((Str.ofString "within") == (Str.ofString "out"))=false:=by decide +kernel
theorem c0H:PyData.strOk (Str.ofString "at")=true:=by decide +kernel
theorem b5p:((Str.ofString "at") == (Str.ofString "step"))=false:=by decide +kernel
theorem b3O:((Str.ofString "at") == (Str.ofString "call"))=false:=by decide +kernel
theorem b7u:((Str.ofString "at") == (Str.ofString "in"))=false:=by decide +kernel
theorem b3Q:((Str.ofString "at") == (Str.ofString "over"))=false:=by decide +kernel
theorem b3m:((Str.ofString "at") == (Str.ofString "begin"))=false:=by decide +kernel
theorem b3p:((Str.ofString "at") == (Str.ofString "start"))=false:=by decide +kernel
theorem b3a:((Str.ofString "at") == (Str.ofString "short"))=false:=by decide +kernel
theorem b3h:((Str.ofString "at") == (Str.ofString "along"))=false:=by decide +kernel
theorem b1O:((Str.ofString "at") == (Str.ofString "within"))=false:=by decide +kernel
theorem b8U:((Str.ofString "at") == (Str.ofString "at"))=true:=by decide +kernel
theorem b7h:((Str.ofString "at") == (Str.ofString "out"))=false:=by decide +kernel
theorem b9I:PyData.strOk (Str.ofString "out")=true:=by decide +kernel
theorem b2Y:((Str.ofString "out") == (Str.ofString "step"))=false:=by decide +kernel
theorem b2K:((Str.ofString "out") == (Str.ofString "call"))=false:=by decide +kernel
theorem b6T:((Str.ofString "out") == (Str.ofString "in"))=false:=by decide +kernel
theorem b2G:((Str.ofString "out") == (Str.ofString "over"))=false:=by decide +kernel
theorem b1t:((Str.ofString "out") == (Str.ofString "begin"))=false:=by decide +kernel
theorem b1P:((Str.ofString "out") == (Str.ofString "start"))=false:=by decide +kernel
theorem b1F:((Str.ofString "out") == (Str.ofString "short"))=false:=by decide +kernel
theorem b0z:((Str.ofString "out") == (Str.ofString "along"))=false:=by decide +kernel
theorem a8B:((Str.ofString "out") == (Str.ofString "within"))=false:=by decide +kernel
theorem b7c:((Str.ofString "out") == (Str.ofString "at"))=false:=by decide +kernel
theorem b4d:((Str.ofString "out") == (Str.ofString "out"))=true:=by decide +kernel
end CM
namespace CM
open PySem L2 DL
inductive Mv where | step | over | inn
 deriving DecidableEq
abbrev nD(n:Nat):D:=.int (n:Int)
theorem a4v(ns:List Nat):(ns.map nD).all T2=true:=by
 rw [List.all_map];simp [T2,List.all_eq_true]
end CM
namespace CM
open PySem L2 DL
def Pd(h:Hh)(d:D)(p:PyData)(n:Nat):Prop:=IsP h d p/\p.canLay0=true/\p.depth <= n
def Pds(h:Hh)(ds:List D)(ps:List PyData)(n:Nat):Prop:=a2t h ds ps/\PyData.canLayAll0 ps=true/\PyData.depthAll ps <= n
theorem Pd.int{h:Hh}{n:Nat}(i:Int):Pd h (.int i) (.int i) n:=⟨.int i,rfl,Nat.zero_le _⟩
theorem Pd.str{h:Hh}{n:Nat}{x:Str}(e:PyData.strOk x=true):Pd h (.str x) (.str x) n:=⟨.str x,e,Nat.zero_le _⟩
theorem Pds.nil{h:Hh}{n:Nat}:Pds h [] [] n:=⟨.nil,rfl,Nat.zero_le _⟩
theorem Pds.cons{h:Hh}{n:Nat}{d:D}{p:PyData}{ds:List D}{ps:List PyData}(a:Pd h d p n)(b:Pds h ds ps n):Pds h (d :: ds) (p :: ps) n :=
 ⟨.cons a.1 b.1,by show (p.canLay0 && PyData.canLayAll0 ps)=true;rw [a.2.1,b.2.1];rfl,by show max p.depth (PyData.depthAll ps) <= n;exact Nat.max_le.mpr ⟨a.2.2,b.2.2⟩⟩
theorem Pd.tup{h:Hh}{n:Nat}{ds:List D}{ps:List PyData}(a:Pds h ds ps n):Pd h (.tup ds) (.tuple ps) (n + 1):=⟨.tup a.1,a.2.1,Nat.succ_le_succ a.2.2⟩
theorem Pd.lst{h:Hh}{n:Nat}{ds:List D}{ps:List PyData}(a:Pds h ds ps n):Pd h (.lst ds) (.list ps) (n + 1):=⟨.lst a.1,a.2.1,Nat.succ_le_succ a.2.2⟩
theorem Pd.ref{h:Hh}{n i:Nat}{ds:List D}{ps:List PyData}(e:h[i]?=some (.lst ds))(a:Pds h ds ps n):Pd h (.ref i) (.list ps) (n + 1):=⟨.ref e a.1,a.2.1,Nat.succ_le_succ a.2.2⟩
theorem Pds.map{τ:Type}{h:Hh}{n:Nat}{f:τ->D}{g:τ->PyData}:∀ {xs:List τ},(∀ x,Pd h (f x) (g x) n)->Pds h (xs.map f) (xs.map g) n
 |[],_=>.nil
 |x :: xs,k=>.cons (k x) (Pds.map k)
theorem Pd.shaped{h:Hh}{n:Nat}{d:D}{p:PyData}(a:Pd h d p n)(e:n <= 64):SeqAt.shaped p=true:=by
 unfold SeqAt.shaped;rw [a.2.1,decide_eq_true (Nat.le_trans a.2.2 e)];rfl
end CM
namespace DL
open PySem PySem.Spec L2
section
variable {K:KP} {α:List Addr} {H:Hp}
end
section
variable {X:Cx} {cn f:Str} {a value:Expr} {fa fv:DE} {pos pos' tpos:Pos}
end
section
variable {X:Cx} {k l:Nat} {ps:List Str} {g:DSp} {cn m:Str} {o e:Expr} {es:List Expr} {fo:DE} {f:DA} {n:Nat} {pos apos:Pos}
end
section
variable {X:Cx} {k l:Nat} {ps:List Str} {g:DSp} {cn:Str} {e:Expr} {es:List Expr} {f:DA} {n:Nat} {p pos:Pos}
end
end DL
namespace DL
open PySem PySem.Spec L2
def a6t:List D->Option (List Int)
 |[]=>some []
 |.int i :: r=>match a6t r with | some ns=>some (i :: ns) | none=>none
 |_=>none
def c1D:P2:=fun x y h Q=>match x,y with
 |.tup xs,.tup ys=>(match a6t xs,a6t ys with | some ns,some ms=>Q (.bl (HT.lexLt ns ms)) h | _,_=>False)
 |_,_=>False
def a1w:P2:=fun x y h Q=>match x,y with
 |.str i,.str j=>i.length + j.length <= 16777216/\Q (.str (i ++ j)) h
 |_,_=>False
def M9:PN:=fun ds h Q=>match ds with | [.int i]=>i.natAbs.log2 < 1920/\Q (.str (toString i)) h | _=>False
section
variable {X:Cx} {o e:Expr} {fo fe:DE} {cpos apos:Pos}
theorem a0X:OpR X (binaryOp .Add) (r2 X.K a1w):=OpR.imp op_add_str fun x y H Q ⟨π,α,h,d,e,Q',R,r1,r2,f,k⟩=>by
 unfold a1w at f
 cases r1 with
 |str i =>
  cases r2 with
  |str j=>exact ⟨i,j,rfl,rfl,by rw [sizeLine_eq];exact f.1,k _ h α H _ f.2 (Ext.refl ..) R (.str _)⟩
  |_=>exact f.elim
 |_=>exact f.elim
theorem R8:CallR X (.type "str") (rN X.K M9):=CallR.imp a0F fun xs H Q ⟨π,α,h,ds,Q',R,rs,f,k⟩=>by
 unfold M9 at f
 split at f
 ·obtain ⟨v,rfl,rd⟩:=rs.inv1;cases rd;exact ⟨_,rfl,f.1,k _ h α H _ f.2 (Ext.refl ..) R (.str _)⟩
 ·exact f.elim
def b9J(fo:DE)(fs:DA):DE:=fun δ h Q=>fo δ h fun d h1=>match d with
 |.ref i=>(match h1[i]? with
  |some (.lst _)=>fs δ h1 fun ds h2=>(match ds,h2[i]? with
   |[.int n],some (.lst xs)=>(0 <= n/\n < 2 ^ 62)/\(match xs[n.toNat]? with | some y=>Q y (h2.set i (.lst (xs.eraseIdx n.toNat))) | none=>False)
   |_,_=>False)
  |_=>False)
 |_=>False
end
end DL
namespace DL
open PySem PySem.Spec L2
def C1(x:Str)(n:Nat):Str:=if n=0 then Str.empty else if n=1\/x.length=0 then x else { cps:=List.foldl (fun x1 x2=>x1 ++ x2) #[] (List.replicate n x.cps) }
def a0h:P2:=fun x y h Q=>match x,y with
 |.str i,.int n=>(0 <= n/\n <= 1000/\i.length <= 1000/\(C1 i n.toNat).length <= 16777216)/\Q (.str (C1 i n.toNat)) h
 |_,_=>False
theorem U3{X:Cx}:OpR X (binaryOp .Mult) (r2 X.K a0h):=by
 intro pins s σ H x y v u Q I rx ry ⟨π,α,h,d,e,Q',R,r1,r2,f,k⟩;unfold a0h at f
 cases r1 with
 |str i =>
  cases r2 with
  |int n =>
   obtain ⟨⟨h0,h1,h2,h3⟩,f⟩:=f;obtain ⟨t,rfl⟩:=rx;obtain ⟨t',rfl⟩:=ry;have q:=k _ h α H _ f (Ext.refl ..) R (.str _);have hm:i.length * n.toNat <= 1000 * 1000:=Nat.mul_le_mul h2 (by omega);refine PySem.P.mul_str ?_ ?_ ?_ ?_
   ·rw [decide_eq_false (by omega),decide_eq_false (by omega)];rfl
   ·intro a b c;have n1:1 <= n:=by omega
    have:(2 ^ 63 - 1:Int) / n ≥ (2 ^ 63 - 1) / 1000:=by
     rw [ge_iff_le,Int.le_ediv_iff_mul_le (by omega)]
     have:(2 ^ 63 - 1:Int) / 1000 * n <= (2 ^ 63 - 1) / 1000 * 1000:=Int.mul_le_mul_of_nonneg_left h1 (by decide)
     exact Int.le_trans this (by decide)
    have e2:(1000:Int) <= (2 ^ 63 - 1) / 1000:=by decide
    omega
   ·intro a b;unfold Builtin.Str.tooLong;exact decide_eq_false (by rw [sizeLine_eq];omega)
   ·by_cases c1:n < 1
    ·rw [if_pos c1]
     have:n.toNat=0:=by omega
     have e:C1 i n.toNat=Str.empty:=by unfold C1;rw [if_pos this]
     rw [e] at q;exact ⟨by decide,.str Str.empty,H,I.tok _,⟨_,rfl⟩,q⟩
    ·rw [if_neg c1]
     by_cases c2:(n == 1 || i.length == 0)=true
     ·rw [if_pos c2]
      have e:C1 i n.toNat=i:=by
       unfold C1;rw [if_neg (by omega),if_pos]
       rcases Bool.or_eq_true_iff.mp c2 with z | z
       ·exact .inl (by have:=beq_iff_eq.mp z;omega)
       ·exact .inr (beq_iff_eq.mp z)
      rw [e] at q;exact ⟨.str i,H,I,⟨_,rfl⟩,q⟩
     ·rw [if_neg c2]
      have e:C1 i n.toNat={ cps:=List.foldl (fun x1 x2=>x1 ++ x2) #[] (List.replicate n.toNat i.cps) }:=by
       unfold C1;rw [if_neg (by omega),if_neg]
       rintro (z | z)
       ·exact c2 (by rw [show n=1 by omega];rfl)
       ·exact c2 (by rw [z];simp)
      rw [e] at q h3;exact ⟨by rw [sizeLine_eq];exact h3,.str _,H,I.tok _,⟨_,rfl⟩,q⟩
  |_=>exact f.elim
 |_=>exact f.elim
end DL
namespace L2
open PySem PySem.Spec PyProof.Rows
section
variable {X:Cx}
theorem a1d:∀ (us:List Value) (a:Int),(∀ (j:Nat) (v:Value),us[j]?=some v->∃ t,v=Value.int (a + (j:Int)) t)->Vals ((List.range us.length).map fun k=>V.int (a + (k:Nat))) us
 |[],_,_=>.nil
 |u :: us,a,h=>by
  rw [List.length_cons,List.range_succ_eq_map,List.map_cons,List.map_map];refine .cons ?_ ?_
  ·obtain ⟨t,e⟩:=h 0 u rfl;exact ⟨t,e⟩
  ·have:=a1d us (a + 1) fun j v e=>by
    obtain ⟨t,q⟩:=h (j + 1) v (by simpa using e);exact ⟨t,by rw [q];congr 1;omega⟩
   have e:(List.range us.length).map ((fun k:Nat=>V.int (a + (k:Nat))) ∘ Nat.succ)=(List.range us.length).map fun k:Nat=>V.int (a + 1 + (k:Nat)):=List.map_congr_left fun k _=>by
    show V.int (a + ((k + 1:Nat):Int))=V.int (a + 1 + (k:Int))
    congr 1;omega
   rw [e];exact this
theorem Y7(hc:X.calm=true):CallR X (.type "list") (fun xs H Q=>∃ p i j,xs=[.ref p]/\H p=some (.rng i j)/\(-(2 ^ 62) <= i/\i < 2 ^ 62/\-(2 ^ 62) <= j/\j < 2 ^ 62)/\(j - i).toNat <= 16777216/\∀ l,H l=none->Q (.ref l) (upd H l (.lst ((List.range (j - i).toNat).map fun k=>V.int (i + (k:Nat)))))):=by
 intro pins s σ H xs us Q I r h;obtain ⟨p,i,j,rfl,hp,⟨b1,b2,b3,b4⟩,hz,q⟩:=h;obtain ⟨u,rfl,rx⟩:=A8 r;cases rx;obtain ⟨t,u,v,ho⟩:=I.hok p _ hp;refine call_list_range (n:=(j - i).toNat) (I.ok.hd hc) ho (small_one b1 b2 b3 b4) (by rw [rangeSize_one];split <;> omega) hz fun h' tk acc c' kp e it=>?_
 have r':Vals ((List.range (j - i).toNat).map fun k=>V.int (i + (k:Nat))) acc.toList:=by
  have:=a1d acc.toList i fun m v e=>by
   obtain ⟨t,z⟩:=it.2 m v (by rw [<- Array.getElem?_toList];exact e);exact ⟨t,by rw [z];congr 1;omega⟩
  rw [Array.length_toList,it.1] at this;exact this
 exact ⟨.ref s.heap.objs.size,_,I.laid (t':=tk) kp (Nat.le_refl _) (show ObjOk X.prog X.w _ h' _ (.lst _) from ⟨by rw [sizeLine_eq,List.length_map,List.length_range];exact hz,acc.toList,c',r',e⟩),rfl,q _ (I.hok.fresh (Nat.le_refl _))⟩
end
end L2
namespace DL
open PySem PySem.Spec L2
theorem a1u{K:KP}{α:List Addr}{H:Hp}(i:Int)(n:Nat):RelDs K α H (z5 i n) ((List.range n).map fun k=>V.int (i + (k:Nat))):=by
 rw [u7];generalize List.range n=l
 induction l with
 |nil=>exact .nil
 |cons a r ih=>exact .cons (.int _) ih
section
variable {X:Cx} {a b:Expr} {p p2 pos pos2:Pos} {n:Nat} {f:DA}
end
end DL
namespace L2
open PySem PySem.Spec PyProof.Rows
section
variable {X:Cx}
def b8o(ta:TA):TE:=fun σ H Q=>ta σ H fun vs H1=>∃ j:Int,vs=[.int j]/\∀ l,H1 l=none->Q (.ref l) (upd H1 l (.rng 0 j))
theorem a4d{b:Expr}{ta:TA}{p pos:Pos}(hg:Gl X "range")(hm:X.mg "range" = none)(ha:PA X [b] ta)(hs:starEach [b] X.env=(false,eval b X.env) :: starEach [] X.env:=by rfl)(hs2:(backTo pos (starEach [] X.env)).any (·.1)=false:=by rfl) :
  PE X (.Call (.Name "range" p) [b] [] pos) (b8o ta):=by
 intro pins s σ H Q I h;refine Call_ (J9 I hg hm boot_range (PyProof.Rows.callWith_type1 (thn (ha pos pins s σ H _ I h) fun us s1 ⟨vs,H1,I1,r1,q1⟩=>?_) hs hs2));obtain ⟨j,e,q⟩:=q1;subst e
 cases r1 with
 |cons r rr =>
  cases rr;obtain ⟨t,rfl⟩:=r;refine call_range_1 ?_;exact ⟨.ref s1.heap.objs.size,_,I1.laid (fun b o e=>Heap.get?_push_of_some _ e) (Nat.le_refl _) (show ObjOk X.prog X.w _ _ _ (.rng 0 j) from ⟨_,_,_,Heap.get?_push_size _ rfl⟩),rfl,q _ (I1.hok.fresh (Nat.le_refl _))⟩
end
end L2
namespace DL
open PySem PySem.Spec L2
def a0o(f:DA):DN:=fun δ h Q=>f δ h fun ds h1=>match ds with
 |[.int j]=>(-(2 ^ 62) <= j/\j < 2 ^ 62)/\j.toNat <= 16777216/\Q (z5 0 j.toNat) h1
 |_=>False
section
variable {X:Cx} {b:Expr} {p p2 pos pos2:Pos} {n:Nat} {f:DA}
theorem a1l(hc:X.calm=true)(hg:Gl X "list")(hm:X.mg "list" = none)(hg2:Gl X "range")(hm2:X.mg "range" = none)(ha:SA X [b] n f)(hs:starEach [b] X.env=(false,eval b X.env) :: starEach [] X.env:=by rfl)(hs2:(backTo pos2 (starEach [] X.env)).any (·.1)=false:=by rfl)
  (he:starEach [.Call (.Name "range" p2) [b] [] pos2] X.env=(false,eval (.Call (.Name "range" p2) [b] [] pos2) X.env) :: starEach [] X.env:=by rfl) (hpl:(backTo pos (starEach [] X.env)).any (·.1)=false:=by rfl) :
  SN X (.Call (.Name "list" p) [.Call (.Name "range" p2) [b] [] pos2] [] pos) (a0o f):=PE.imp (L1 (Y7 hc) hg hm PyProof.Rows.boot_list (P7 (a4d hg2 hm2 ha hs hs2) a0R he) (by decide) (by decide) he hpl) fun σ H Q ⟨π,α,δ,h,Q',R,S,f,k⟩=>by
 refine ⟨π,α,δ,h,_,R,S,f,fun ds h1 α1 H1 vs f1 e1 R1 q1 l1=>?_⟩
 split at f1
 ·rename_i j;obtain ⟨b1,hz,q⟩:=f1
  cases q1 with
  |cons r2 q1 =>
    cases q1;cases r2;refine ⟨j,rfl,fun l hl=>?_⟩;have e2:Ext α1 H1 α1 (upd H1 l (.rng 0 j)):=Ext.new hl;have e3:(j - 0).toNat=j.toNat:=by rw [Int.sub_zero]
    refine ⟨l,0,j,rfl,l9,⟨by decide,by decide,b1.1,b1.2⟩,by rw [e3];exact hz,fun l2 hl2=>?_⟩;rw [e3];exact LN.last (h:=h) k q (e1.trans e2) (R1.new hl) (a1u 0 _) hl2
 ·exact f1.elim
end
end DL
namespace L2
open PySem PySem.Spec PyProof.Rows
def Its(x:Str):It:=⟨fun i _=>i < x.cps.size,fun i H y H'=>H'=H/\∃ c,x.cps[i]?=some c/\y = .str ⟨#[c]⟩,fun i _=>x.cps.size <= i⟩
theorem a7t{P:Program}{w:World}{K:PySem.W.Frag}{tg:Expr}(it:Addr)(x:Str)(t:Tok)(ty:String)(hty:ty = "str_ascii_iterator"\/ty = "str_iterator"):a1g P w K tg (Its x) [it] it (fun i h=>h.IsStrIter it ty x t i) where
 mem:=by simp
 obj:=fun i h st b hb=>by
  have e:b=it:=by simpa using hb
  subst e;obtain ⟨o,e,c,d⟩:=st;exact ⟨o,e,fun v z=>by rw [d] at z;cases z⟩
 keep:=fun i h h' st k=>by
  obtain ⟨o,e,r⟩:=st;exact ⟨o,k it (by simp) o e,r⟩
 item:=by
  intro X hP hw hK hc i pins s σ H E I hf st hg;subst hP hw hK;obtain ⟨f0,f1,f2,f3,f4,f5⟩:=hf it (by simp)
  have W:Walks X.prog X.w X.A it [it] [it] x.cps.size (SignAt x) (fun i h=>h.IsStrIter it ty x t i):=by
   rcases hty with rfl | rfl
   ·exact Walks.strAscii (I.ok.hd hc) it x t
   ·exact Walks.strWide (I.ok.hd hc) it x t
  refine W.item i s _ _ hg st fun v h' tk hv st' kk=>?_;obtain ⟨c,u,hc',rfl⟩:=hv;have I1:Inv X pins σ H { s with heap:=h',toks:=tk }:=I.turned (fun b o hb e=>kk b o (by simpa using hb) e) f0 f1 f3 f4 f5;obtain ⟨o,e,oc,od⟩:=id st';exact ⟨_,rfl,a3s (s:={ s with heap:=h',toks:=tk }) (n:=ty) e oc od (by rcases hty with rfl | rfl <;> decide) ⟨.str ⟨#[c]⟩,H,I1,⟨u,rfl⟩,⟨rfl,c,hc',rfl⟩,st',fun b hb=>(hf b hb).1⟩⟩
 done:=by
  intro X hP hw hK hc i pins s σ H E I hf st hg;subst hP hw hK;have hg:x.cps.size <= i:=hg;obtain ⟨f0,f1,f2,f3,f4,f5⟩:=hf it (by simp)
  rcases hty with rfl | rfl
  ·exact wpAny_pyNext_ascii_end (I.ok.hd hc) st (by simp;omega) fun h' eb=>⟨rfl,I.turned (t':=s.toks) (fun b o hb e=>eb b o hb e) f0 f1 f3 f4 f5⟩
  ·exact wpAny_pyNext_wide_end (I.ok.hd hc) st (by simp;omega) fun h' eb=>⟨rfl,I.turned (t':=s.toks) (fun b o hb e=>eb b o hb e) f0 f1 f3 f4 f5⟩
 self:=fun _ _ _ _ _ st h=>by
  rcases hty with rfl | rfl
  ·exact wpAny_pyIter_striter_ascii st h
  ·exact wpAny_pyIter_striter_wide st h
def slS(x:Str)(lo hi:Option Int):Str:=if (Builtin.Str.strSliceIndices lo hi 1 x.length).length == x.length then x else ⟨((Builtin.Str.strSliceIndices lo hi 1 x.length).filterMap (x.cps[·]?)).toArray⟩
section
variable {X:Cx} {tg:Expr}
def c0f(tl:TE):TI:=fun σ H R=>tl σ H fun v H1=>∃ x,v = .str x/\R (Its x) H1
theorem b6r{l:Expr}{tl:TE}(hl:PE X l tl):PI X tg l (c0f tl):=by
 intro pins s σ H R I h;refine thn (hl pins s σ H _ I h) fun v s1 ⟨y,H1,I1,r1,q1⟩=>?_;obtain ⟨x,e,q⟩:=q1;subst e;obtain ⟨t,rfl⟩:=r1
 have fin:∀ (ty:String) (hty:ty = "str_ascii_iterator"\/ty = "str_iterator"),PIE X pins σ tg R (.ref s1.heap.objs.size) { s1 with heap:=s1.heap.push { cls:=.type ty,data:=.fields #[.str x t,.int 0 0] } }:=fun ty hty=>by
  refine ⟨s1.heap.objs.size,[s1.heap.objs.size],_,_,H1,rfl,I1.kept (t':=s1.toks) fun b o e=>Heap.get?_push_of_some _ e,a7t _ x t ty hty,⟨_,Heap.get?_push_size _ rfl,rfl,rfl⟩,fun b hb=>?_,q⟩;have e:b=s1.heap.objs.size:=by simpa using hb
  subst e;exact I1.fpOk (Nat.le_refl _) (I1.hok.fresh (Nat.le_refl _))
 cases ha:x.cps.all (· < 128)
 ·exact wpAny_pyIter_wide ha (fin _ (.inr rfl))
 ·exact wpAny_pyIter_ascii ha (fin _ (.inl rfl))
theorem b5i:OpR X (compareOp .LtE) (fun x y H Q=>∃ i j,x = .str i/\y = .str j/\Q (.bl (!decide (j.cps.toList < i.cps.toList))) H):=by
 intro pins s σ H x y v u Q I rx ry h;obtain ⟨i,j,rfl,rfl,q⟩:=h;obtain ⟨t,rfl⟩:=rx;obtain ⟨t',rfl⟩:=ry;exact P.le_str ⟨.bl _,H,I,rfl,q⟩
def occ(x y:Str):Bool:=!(Builtin.Str.occurrences x y 0 x.length 1).isEmpty
theorem a4u:CallR X (.type "int") (fun xs H Q=>∃ x n,xs=[.str x]/\x.length <= 640/\PySem.intText? x=some n/\Q (.int n) H):=by
 intro pins s σ H xs us Q I r h;obtain ⟨x,n,rfl,hl,hn,q⟩:=h;obtain ⟨u,rfl,rx⟩:=A8 r;obtain ⟨t,rfl⟩:=rx;exact PySem.W.KIN.call_text hn hl ⟨.int n,H,I.tok _,⟨_,rfl⟩,q⟩
theorem a4m:MtR X "str.index" (fun x xs H Q=>∃ s y i rest,x = .str s/\xs=[.str y]/\Builtin.Str.occurrences s y 0 s.length 1=i :: rest/\Q (.int (i:Nat)) H):=by
 intro pins s σ H x vs v us Q I rx rv h;obtain ⟨a,y,i,rest,rfl,rfl,ho,q⟩:=h;obtain ⟨t,rfl⟩:=rx;obtain ⟨u,rfl,ru⟩:=A8 rv;obtain ⟨t',rfl⟩:=ru;exact SC.index ho ⟨.int i,H,I.tok _,⟨_,rfl⟩,q⟩
theorem b4a:SlR X (fun x lo hi H Q=>∃ s,x = .str s/\(slS s lo hi).length <= sizeLine/\Q (.str (slS s lo hi)) H):=by
 intro pins s σ H x v vl vu lo hi sl Q I rx hs pl pu h;obtain ⟨a,rfl,hz,q⟩:=h;obtain ⟨t,rfl⟩:=rx;refine ⟨"str",_,F.slot_str_getitem.lookup,typeIs_str _ _ _,?_⟩
 have key:∀ (l u:Option (Int×Tok)),l.map (·.1)=lo->u.map (·.1)=hi->(sliceMade a t l u none).post (EP X pins σ Q) s:=fun l u e1 e2=>by
  unfold sliceMade slicePicked;rw [e1,e2];unfold slS at hz q;refine post_val_or_str ⟨?_,fun t' k=>?_⟩
  ·simpa using hz
  ·refine ⟨.str _,H,I.tok _,⟨t',rfl⟩,?_⟩
   simpa using q
 cases pl with
 |none =>
  cases pu with
  |none=>exact wpAny_getItem_str_slice (l:=none) (u:=none) (st:=none) hs rfl (key none none rfl rfl)
  |int j tj=>exact wpAny_getItem_str_slice (l:=none) (u:=some (j,tj)) (st:=none) hs rfl (key none (some (j,tj)) rfl rfl)
 |int i ti =>
  cases pu with
  |none=>exact wpAny_getItem_str_slice (l:=some (i,ti)) (u:=none) (st:=none) hs rfl (key (some (i,ti)) none rfl rfl)
  |int j tj=>exact wpAny_getItem_str_slice (l:=some (i,ti)) (u:=some (j,tj)) (st:=none) hs rfl (key (some (i,ti)) (some (j,tj)) rfl rfl)
end
end L2
namespace DL
open PySem PySem.Spec L2
def W4(x:Str):List D:=x.cps.toList.map fun c=>.str ⟨#[c]⟩
def b3u(f:DE):DI:=fun δ h Q=>f δ h fun d h1=>match d with | .str x=>Q ⟨W4 x,[]⟩ h1 | _=>False
theorem b6t{K:PySem.W.Frag}{π α:List Addr}{H:Hp}{x:Str}:ItA K π α H (Its x) ⟨W4 x,[]⟩:=fun π' sub=>by
 refine ⟨fun _ _=>True,⟨fun _ _ _ _ _ _=>trivial,fun _ _ _ _ _ _ _=>trivial,fun α H h i d R st ok hi=>?_,fun α H h R st ok=>?_⟩,trivial⟩
 ·have hi:(x.cps.toList.map fun c=>D.str ⟨#[c]⟩)[i]?=some d:=hi;rw [List.getElem?_map] at hi
  cases q:x.cps.toList[i]? with
  |none=>rw [q] at hi;cases hi
  |some c =>
   rw [q] at hi;cases hi;refine ⟨by have:=(List.getElem?_eq_some_iff.mp q).1;show i < x.cps.size;simpa using this,fun y H' ⟨e1,c',e2,e3⟩=>?_⟩;subst e1 e3;rw [<- Array.getElem?_toList,q] at e2;cases e2;exact ⟨Ext.refl ..,R,.str _⟩
 ·show x.cps.size <= (x.cps.toList.map fun c=>D.str ⟨#[c]⟩).length;rw [List.length_map,Array.length_toList];exact Nat.le_refl _
def b1K:P2:=fun x y h Q=>match x,y with
 |.str i,.str j=>Q (.bl (!decide (j.cps.toList < i.cps.toList))) h
 |_,_=>False
def c1z(neg:Bool):P2:=fun x y h Q=>match x,y with
 |.str i,.str j=>Q (.bl (if neg then !occ j i else occ j i)) h
 |_,_=>False
def a6H:PN:=fun ds h Q=>match ds with | [.str x]=>x.length <= 640/\∃ n,PySem.intText? x=some n/\Q (.int n) h | _=>False
def b8g(fe:DE)(fl fh:DO):DE:=fun δ h Q=>fe δ h fun d h1=>fl δ h1 fun l h2=>fh δ h2 fun u h3=>match d with
 |.str x=>(slS x l u).length <= 16777216/\Q (.str (slS x l u)) h3
 |_=>False
def a3Q(fo:DE)(fs:DA):DE:=fun δ h Q=>fo δ h fun d h1=>match d with
 |.str x=>fs δ h1 fun ds h2=>match ds with
  |[.str y]=>∃ i rest,Builtin.Str.occurrences x y 0 x.length 1=i :: rest/\Q (.int ((i:Nat):Int)) h2
  |_=>False
 |_=>False
structure b0Q(K:PySem.W.Frag)(a:Addr)(ws:List Str):Prop where
 ex:∃ (o:Obj) (its:Array Value) (n:Nat),K.lookup a=some o/\o.cls = .type "tuple"/\o.data = .seq its n/\its.size <= sizeLine/\Vals (ws.map V.str) its.toList
def b2A(ws:List Str)(fe:DE):DE:=fun δ h Q=>fe δ h fun d h1=>match d with
 |.str x=>Q (.bl (!(ws.any fun y=>y == x))) h1
 |_=>False
def c0x(f:DA):DI:=fun δ h Q=>f δ h fun ds h1=>match ds with
 |[.lst xs]=>Q ⟨xs.reverse,[]⟩ h1
 |_=>False
section
variable {X:Cx} {tg e:Expr} {fe:DE} {pos p2 cpos apos:Pos}
theorem b4b(he:SE X e fe):SI X tg e (b3u fe):=PI.imp (b6r he) fun σ H Q ⟨π,α,δ,h,Q',R,S,f,k⟩=>by
 refine ⟨π,α,δ,h,_,R,S,f,fun d h1 α1 H1 v1 f1 e1 R1 q1=>?_⟩
 cases q1 with
 |str x=>exact ⟨x,rfl,k _ h1 α1 H1 _ f1 e1 R1 b6t Src.ok_nil⟩
 |_=>exact f1.elim
theorem a5Y:OpR X (compareOp .LtE) (r2 X.K b1K):=OpR.imp b5i fun x y H Q ⟨π,α,h,d,e,Q',R,r1,r2,f,k⟩=>by
 unfold b1K at f
 cases r1 with
 |str i =>
  cases r2 with
  |str j=>exact ⟨i,j,rfl,rfl,k _ h α H _ f (Ext.refl ..) R (.bl _)⟩
  |_=>exact f.elim
 |_=>exact f.elim
theorem b0T:CallR X (.type "int") (rN X.K a6H):=CallR.imp a4u fun xs H Q ⟨π,α,h,ds,Q',R,rs,f,k⟩=>by
 unfold a6H at f
 split at f
 ·obtain ⟨v,rfl,rd⟩:=rs.inv1;obtain ⟨hl,n,hn,q⟩:=f;cases rd;exact ⟨_,n,rfl,hl,hn,k _ h α H _ q (Ext.refl ..) R (.int _)⟩
 ·exact f.elim
theorem b4Q{lo hi:Option Expr}{fl fh:DO}(he:SE X e fe)(hl:SO X lo fl)(hu:SO X hi fh):SE X (.Subscript e (.Slice lo hi none p2) pos) (b8g fe fl fh):=PE.imp (a1N b4a he hl hu) fun σ H Q ⟨π,α,δ,h,Q',R,S,f,k⟩=>by
 refine ⟨π,α,δ,h,_,R,S,f,fun d h1 α1 H1 v1 f1 e1 R1 q1=>?_⟩;refine ⟨π,α1,δ,h1,_,R1,S.mono e1,f1,fun l h2 α2 H2 f2 e2 R2=>?_⟩;refine ⟨π,α2,δ,h2,_,R2,S.mono (e1.trans e2),f2,fun u h3 α3 H3 f3 e3 R3=>?_⟩
 cases q1 with
 |str x=>exact ⟨x,rfl,by rw [sizeLine_eq];exact f3.1,k _ h3 α3 H3 _ f3.2 (e1.trans (e2.trans e3)) R3 (.str _)⟩
 |_=>exact f3.elim
theorem a4J{a:Expr}{fa:DA}{n:Nat}(ho:SE X e fe)(ha:SA X [a] n fa)(hbase:attributeBase e "index" X.env (eval e X.env)=eval e X.env:=by rfl)
  (hfew:((backTo cpos (starEach [a] X.env)).all (fun x=>!x.1) && (backToKw cpos (keywordEach [] X.env)).all (fun x=>x.1.isSome)
   && decide ([a].length + ([]:List Keyword).length + (if ([]:List Keyword).isEmpty then 0 else 1) < 30))=true:=by rfl)
  (hline:(apos.endLine == cpos.line)=true:=by rfl) (hs:starEach [a] X.env=(false,eval a X.env) :: starEach [] X.env:=by rfl) (hplain:(backTo cpos (starEach [] X.env)).any (·.1)=false:=by rfl) :
  SE X (.Call (.Attribute e "index" apos) [a] [] cpos) (a3Q fe fa) :=
 PE.imp (X3 PySem.F.plainAttrs_str PySem.F.slot_str_index PySem.F.type_str_index a4m ho ha hbase hfew hline hs hplain) fun σ H Q ⟨π,α,δ,h,Q',R,S,f,k⟩=>by
  refine ⟨π,α,δ,h,_,R,S,f,fun d h1 α1 H1 v1 f1 e1 R1 q1=>?_⟩
  cases q1 with
  |str x =>
   refine ⟨rfl,π,α1,δ,h1,_,R1,S.mono e1,f1,fun ds h2 α2 H2 vs f2 e2 R2 q2 l2=>?_⟩
   split at f2
   ·rename_i y;obtain ⟨i,rest,ho',q⟩:=f2;obtain ⟨v,rfl,q3⟩:=q2.inv1;cases q3;exact ⟨x,y,i,rest,rfl,rfl,ho',k _ h2 α2 H2 _ q (e1.trans e2) R2 (.int _)⟩
   ·exact f2.elim
  |_=>exact f1.elim
theorem b2f{x:Str}{ws:List Str}{p:Pos}(hg:Gl X x)(hk:∃ a,X.mg x=some (.ref a)/\b0Q X.K a ws)(he:SE X e fe)(hm:behindInMarks .NotIn (.Name x p)=false:=by rfl)(hd:(x == ("__debug__":Str))=false:=by decide):SE X (.Compare e [.NotIn] [.Name x p] pos) (b2A ws fe):=by
 obtain ⟨a,hmg,⟨o,its,n,lk,oc,od,hz,vl⟩⟩:=hk;refine PE.imp (a3g P8 he (a0x hg hmg (v:=.ref a) rfl hd) hm) fun σ H Q ⟨π,α,δ,h,Q',R,S,f,k⟩=>?_;refine ⟨π,α,δ,h,_,R,S,f,fun d h1 α1 H1 v1 f1 e1 R1 q1=>?_⟩
 cases q1 with
 |str x =>
  refine ⟨a,ws.map V.str,rfl,.inr (.inr ⟨o,its,n,lk,oc,od,hz,vl⟩),rfl,?_,?_⟩
  ·rw [List.all_map];exact List.all_eq_true.mpr fun _ _=>rfl
  ·have e:inV (.str x) (ws.map V.str)=ws.any fun y=>y == x:=by
    unfold inV;rw [List.any_map];rfl
   show Q (.bl (!inV (.str x) (ws.map V.str))) H1;rw [e];exact k _ h1 α1 H1 _ f1 e1 R1 (.bl _)
 |_=>exact f1.elim
end
def K6:List Expr->Option (List Str)
 |[]=>some []
 |.Constant (.str x) _ _ :: r=>match K6 r with | some ws=>some (x :: ws) | none=>none
 |_=>none
def a4a:List Str->DA
 |[]=>d2
 |w :: ws=>b0 (dC (.str w)) (a4a ws)
theorem a3y{X:Cx}:∀ {es:List Expr} {ws:List Str},K6 es=some ws->SA X es es.length (a4a ws)
 |[],ws,h=>by cases h;exact c6
 |e :: es,ws,h=>by
  cases e with
  |Constant c j pos =>
   cases c with
   |str x =>
    have h:(match K6 es with | some ws=>some (x :: ws) | none=>none)=some ws:=h
    cases q:K6 es with
    |none=>rw [q] at h;cases h
    |some vs =>
     rw [q] at h;cases h;exact a9 d6 (a3y q) rfl
   |_=>cases h
  |_=>cases h
theorem a1z:∀ {es:List Expr} {ws:List Str},K6 es=some ws->es.length=ws.length
 |[],ws,h=>by cases h;rfl
 |e :: es,ws,h=>by
  cases e with
  |Constant c j pos =>
   cases c with
   |str x =>
    have h:(match K6 es with | some ws=>some (x :: ws) | none=>none)=some ws:=h
    cases q:K6 es with
    |none=>rw [q] at h;cases h
    |some vs =>
     rw [q] at h;cases h;show es.length + 1=vs.length + 1;rw [a1z q]
   |_=>cases h
  |_=>cases h
theorem b0k{X:Cx}{es:List Expr}{pos:Pos}(ws:List Str)(h:K6 es=some ws:=by rfl)(hw:ws.length <= 1000:=by decide):SN X (.List es pos) (a4a ws) :=
 j5 (a3y h) (by rw [a1z h,sizeLine_eq];omega)
end DL
namespace CM
open PySem L2 DL
def TOk(x:Str)(n:Nat):Prop:=PyData.strOk x=true/\x.length <= n
instance (x:Str) (n:Nat):Decidable (TOk x n):=by unfold TOk;infer_instance
theorem TOk.up{x:Str}{n m:Nat}(h:TOk x n)(e:n <= m):TOk x m:=⟨h.1,Nat.le_trans h.2 e⟩
theorem E1(x:Str):PyData.strOk x=true ↔ ∀ c ∈ x.cps.toList,c < 1114112:=by
 unfold PyData.strOk;rw [<- Array.all_toList,List.all_eq_true];exact ⟨fun h c hc=>of_decide_eq_true (h c hc),fun h c hc=>decide_eq_true (h c hc)⟩
theorem a0M(x:Str):x.length=x.cps.toList.length:=by rw [Array.length_toList];rfl
theorem TOk.one{x:Str}{n c:Nat}(hx:TOk x n)(h:c ∈ x.cps.toList):TOk ⟨#[c]⟩ 1:=by
 refine ⟨(E1 _).mpr fun d hd=>?_,Nat.le_refl _⟩
 have:d=c:=by simpa using hd
 rw [this];exact (E1 x).mp hx.1 c h
theorem b6l(a b:Nat):decide ([a] < [b])=decide (a < b):=by
 apply decide_eq_decide.mpr
 constructor
 ·intro h
  cases h with
  |rel h=>exact h
  |cons h=>cases h
 ·intro h;exact .rel h
theorem a1s{h:Hh}{x:Str}{n:Nat}(hx:TOk x n)(hn:n <= 16777216):T7 h (.str x)=some x.length:=if_pos (Nat.le_trans hx.2 hn)
def isL(c:Nat):Bool:=decide (97 <= c) && decide (c <= 122)
def isF(c:Nat):Bool:=decide (48 <= c) && decide (c <= 57)
def kept:List Str:= ["function","call","dye","wash","if","to","return","back","here"]
def isN(x:Str):Bool:=(decide (1 <= x.length) && decide (x.length <= 8)) && ((!(kept.any fun y=>y == x)) && x.cps.toList.all isL)
def a2u(x:Str):Option Nat:=if (1 <= x.length/\x.length <= 18)/\x.cps.toList.all isF=true then (if x.cps.toList.head?=some 48/\1 < x.length then none else some (PySem.NumText.digitsVal x.cps.toList)) else none
theorem b1i{x y:Str}(h:x.cps.toList=y.cps.toList):x=y:=by
 cases x;cases y;exact congrArg Str.mk (Array.toList_inj.mp h)
theorem a3w(x y:Str):(x == y)=decide (x.cps.toList=y.cps.toList):=by
 by_cases h:x.cps.toList=y.cps.toList
 ·rw [b1i h,beq_self_eq_true];simp
 ·rw [decide_eq_false h];exact beq_eq_false_iff_ne.mpr fun e=>h (by rw [e])
theorem b0a{h:Hh}{x:Str}{n c:Nat}{r:List Nat}(hx:TOk x n)(hn:n <= 10000)(e:x.cps.toList=c :: r):ixD h (.str x) (.int 0)=some (.str ⟨#[c]⟩):=by
 show O7 x 0=_;unfold O7;rw [if_pos (Nat.le_trans hx.2 (by omega)),e,E6];rfl
end CM
namespace L2
open PySem PySem.Spec PyProof.Rows
section
variable {X:Cx}
end
end L2
namespace DL
open PySem PySem.Spec L2
def c0v(xs ys:List D):List D:=(xs.zip ys).map fun p=>.tup [p.1,p.2]
def c1u(f:DA):DI:=fun δ h Q=>f δ h fun ds h1=>∃ xs y S,ds=[.tup xs,y]/\A4 h1 y=some S/\xs.length=S.items.length/\Q ⟨c0v xs S.items,S.w⟩ h1
end DL
namespace L2
open PySem PySem.Spec PyProof.Rows
theorem a2V:∀ {ns:List Int} {vs:List Value},Vals (ns.map V.int) vs->IntsAre vs ns
 |[],_,.nil=>.nil
 |n :: ns,_,.cons ⟨t,rfl⟩ h=>.cons n t (a2V h)
section
variable {X:Cx}
theorem a4G:MtR X "list.index" (fun x xs H Q=>∃ (a:Addr) (ns:List Int) (k:Int),x = .ref a/\xs=[.int k]/\SqL X.K H a (ns.map V.int)/\ns.length <= 100/\k ∈ ns/\Q (.int (ns.idxOf k:Nat)) H):=by
 intro pins s σ H x vs v us Q I rx rv h;obtain ⟨a,ns,k,rfl,rfl,hq,hl,hk,q⟩:=h;cases rx;obtain ⟨u,rfl,ru⟩:=A8 rv;obtain ⟨t',rfl⟩:=ru;obtain ⟨its,rv1,p,_⟩:=I.list hq;have ii:=a2V rv1;have il:=ii.length;have lt:ns.idxOf k < ns.length:=List.idxOf_lt_length_iff.mpr hk;obtain ⟨⟨cls,dd,data,sl⟩,ob,oc,m,od⟩:=p.isList
 simp only at oc od
 subst oc od;have lt':ns.idxOf k < its.length:=by rw [il];exact lt
 have e1:isInt k (its.toArray[ns.idxOf k]'(by rw [List.size_toArray];exact lt'))=true:=by
  show isInt k its[ns.idxOf k]=true;rw [isInt_at k ii _ lt' lt,List.getElem_idxOf lt];exact beq_self_eq_true k
 refine call_meets PySem.F.slot_list_index ⟨_,ob,rfl⟩ PySem.F.entry_list_index (PySem.F.args_list_index_2 _ _) (PySem.SeqAt.list_indexAt a its.toArray m dd sl _ (isInt k) (ns.idxOf k) (by rw [List.size_toArray];exact lt') (by omega) e1 fun i hi hlt=>?_) ⟨ob,fun y hy=>?_,⟨.int (ns.idxOf k:Nat),H,I.tok _,⟨_,rfl⟩,q⟩⟩
 ·have hi:i < its.length:=by rw [List.size_toArray] at hi;exact hi
  show isInt k its[i]=false;rw [isInt_at k ii i hi (by rw [<- il];exact hi)];exact ne_of_lt_idxOf hlt _
 ·exact (eq_isInt k _ ii y (List.mem_toArray.mp hy)).at _ _
end
end L2
namespace DL
open PySem PySem.Spec L2
def L5(fo:DE)(fs:DA):DE:=fun δ h Q=>fo δ h fun d h1=>(A2 h1 d).isSome=true/\fs δ h1 fun ds h2=>∃ (ns:List Int) (k:Int),ds=[.int k]/\A2 h2 d=some (ns.map D.int)/\ns.length <= 100/\k ∈ ns/\Q (.int (ns.idxOf k:Nat)) h2
theorem F3{X:Cx}{e a:Expr}{fe:DE}{fa:DA}{n:Nat}{apos cpos:Pos}(ho:SE X e fe)(ha:SA X [a] n fa)(hbase:attributeBase e "index" X.env (eval e X.env)=eval e X.env:=by rfl)
  (hfew:((backTo cpos (starEach [a] X.env)).all (fun x=>!x.1) && (backToKw cpos (keywordEach [] X.env)).all (fun x=>x.1.isSome)
   && decide ([a].length + ([]:List Keyword).length + (if ([]:List Keyword).isEmpty then 0 else 1) < 30))=true:=by rfl)
  (hline:(apos.endLine == cpos.line)=true:=by rfl) (hs:starEach [a] X.env=(false,eval a X.env) :: starEach [] X.env:=by rfl) (hplain:(backTo cpos (starEach [] X.env)).any (·.1)=false:=by rfl) :
  SE X (.Call (.Attribute e "index" apos) [a] [] cpos) (L5 fe fa) :=
 PE.imp (X3 PySem.F.plainAttrs_list PySem.F.slot_list_index PySem.F.type_list_index a4G ho ha hbase hfew hline hs hplain) fun σ H Q zz=>by
  obtain ⟨π,α,δ,h,Q',R,S,f,k⟩:=zz;refine ⟨π,α,δ,h,_,R,S,f,fun d h1 α1 H1 v1 f1 e1 R1 q1=>?_⟩;obtain ⟨hi,f1⟩:=f1;obtain ⟨xs,hx⟩:=Option.isSome_iff_exists.mp hi;obtain ⟨p,us,rfl,sq,_⟩:=B2 R1 q1 hx;refine ⟨.inl ⟨rfl,us,sq⟩,π,α1,δ,h1,_,R1,S.mono e1,f1,fun ds h2 α2 H2 vs f2 e2 R2 q2 l2=>?_⟩;obtain ⟨ns,i,rfl,hl,hn,hk,q⟩:=f2;obtain ⟨v,rfl,q3⟩:=q2.inv1;cases q3;obtain ⟨p2,us2,e3,sq2,r2⟩:=B2 R2 (q1.mono e2) hl;cases e3
  cases r2.ints_inv
  exact ⟨p,ns,i,rfl,rfl,sq2,hn,hk,k _ h2 α2 H2 _ q (e1.trans e2) R2 (.int _)⟩
end DL
namespace DL
open PySem PySem.Spec L2
def c0h(k1:Str)(f1:DE)(k2:Str)(f2:DE)(fk fx:DE):DE:=fun δ h Q=>f1 δ h fun x h1=>f2 δ h1 fun y h2=>fk δ h2 fun k h3=>fx δ h3 fun z h4=>∃ w,k = .str w/\k1 ≠ k2/\Q (if w=k1 then x else if w=k2 then y else z) h4
end DL
namespace K64w
open PySem
theorem b6p:PyData.strOk (Str.ofString "number")=true:=by decide +kernel
theorem b8Z:PyData.strOk (Str.ofString "copy")=true:=by decide +kernel
theorem b7v:PyData.strOk (Str.ofString "does")=true:=by decide +kernel
theorem b9o:PyData.strOk (Str.ofString "dye")=true:=by decide +kernel
theorem b7V:PyData.strOk (Str.ofString "wash")=true:=by decide +kernel
theorem b9U:PyData.strOk (Str.ofString "if")=true:=by decide +kernel
theorem c0a:PyData.strOk (Str.ofString "to")=true:=by decide +kernel
theorem b5l:PyData.strOk (Str.ofString "return")=true:=by decide +kernel
theorem a9t:((Str.ofString "number") == (Str.ofString "if"))=false:=by decide +kernel
theorem a8L:((Str.ofString "number") == (Str.ofString "to"))=false:=by decide +kernel
theorem a3t:((Str.ofString "number") == (Str.ofString "return"))=false:=by decide +kernel
theorem a8l:((Str.ofString "number") == (Str.ofString "dye"))=false:=by decide +kernel
theorem a4Z:((Str.ofString "number") == (Str.ofString "call"))=false:=by decide +kernel
theorem a5r:((Str.ofString "number") == (Str.ofString "copy"))=false:=by decide +kernel
theorem a5p:((Str.ofString "number") == (Str.ofString "does"))=false:=by decide +kernel
theorem b2R:((Str.ofString "copy") == (Str.ofString "if"))=false:=by decide +kernel
theorem b2X:((Str.ofString "copy") == (Str.ofString "to"))=false:=by decide +kernel
theorem a5m:((Str.ofString "copy") == (Str.ofString "return"))=false:=by decide +kernel
theorem a9W:((Str.ofString "copy") == (Str.ofString "dye"))=false:=by decide +kernel
theorem a8O:((Str.ofString "copy") == (Str.ofString "call"))=false:=by decide +kernel
theorem a8Z:((Str.ofString "copy") == (Str.ofString "copy"))=true:=by decide +kernel
theorem a8v:((Str.ofString "copy") == (Str.ofString "does"))=false:=by decide +kernel
theorem b2P:((Str.ofString "does") == (Str.ofString "if"))=false:=by decide +kernel
theorem b2D:((Str.ofString "does") == (Str.ofString "to"))=false:=by decide +kernel
theorem a5f:((Str.ofString "does") == (Str.ofString "return"))=false:=by decide +kernel
theorem b0M:((Str.ofString "does") == (Str.ofString "dye"))=false:=by decide +kernel
theorem a9m:((Str.ofString "does") == (Str.ofString "call"))=false:=by decide +kernel
theorem a9o:((Str.ofString "does") == (Str.ofString "copy"))=false:=by decide +kernel
theorem a8A:((Str.ofString "does") == (Str.ofString "does"))=true:=by decide +kernel
theorem b6f:((Str.ofString "dye") == (Str.ofString "if"))=false:=by decide +kernel
theorem b5w:((Str.ofString "dye") == (Str.ofString "to"))=false:=by decide +kernel
theorem a6c:((Str.ofString "dye") == (Str.ofString "return"))=false:=by decide +kernel
theorem b2H:((Str.ofString "dye") == (Str.ofString "dye"))=true:=by decide +kernel
theorem b1J:((Str.ofString "dye") == (Str.ofString "call"))=false:=by decide +kernel
theorem b1a:((Str.ofString "dye") == (Str.ofString "copy"))=false:=by decide +kernel
theorem b2l:((Str.ofString "dye") == (Str.ofString "does"))=false:=by decide +kernel
theorem b2B:((Str.ofString "wash") == (Str.ofString "if"))=false:=by decide +kernel
theorem b3v:((Str.ofString "wash") == (Str.ofString "to"))=false:=by decide +kernel
theorem a5b:((Str.ofString "wash") == (Str.ofString "return"))=false:=by decide +kernel
theorem b0m:((Str.ofString "wash") == (Str.ofString "dye"))=false:=by decide +kernel
theorem a9y:((Str.ofString "wash") == (Str.ofString "call"))=false:=by decide +kernel
theorem a9u:((Str.ofString "wash") == (Str.ofString "copy"))=false:=by decide +kernel
theorem a9j:((Str.ofString "wash") == (Str.ofString "does"))=false:=by decide +kernel
theorem b7a:((Str.ofString "if") == (Str.ofString "if"))=true:=by decide +kernel
theorem b6V:((Str.ofString "if") == (Str.ofString "to"))=false:=by decide +kernel
theorem a8P:((Str.ofString "if") == (Str.ofString "return"))=false:=by decide +kernel
theorem b5S:((Str.ofString "if") == (Str.ofString "dye"))=false:=by decide +kernel
theorem b2M:((Str.ofString "if") == (Str.ofString "call"))=false:=by decide +kernel
theorem b3w:((Str.ofString "if") == (Str.ofString "copy"))=false:=by decide +kernel
theorem b3d:((Str.ofString "if") == (Str.ofString "does"))=false:=by decide +kernel
theorem b7i:((Str.ofString "to") == (Str.ofString "if"))=false:=by decide +kernel
theorem b7f:((Str.ofString "to") == (Str.ofString "to"))=true:=by decide +kernel
theorem a9d:((Str.ofString "to") == (Str.ofString "return"))=false:=by decide +kernel
theorem b3C:((Str.ofString "to") == (Str.ofString "dye"))=false:=by decide +kernel
theorem b3o:((Str.ofString "to") == (Str.ofString "call"))=false:=by decide +kernel
theorem b2y:((Str.ofString "to") == (Str.ofString "copy"))=false:=by decide +kernel
theorem b2Q:((Str.ofString "to") == (Str.ofString "does"))=false:=by decide +kernel
theorem a9b:((Str.ofString "return") == (Str.ofString "if"))=false:=by decide +kernel
theorem a8H:((Str.ofString "return") == (Str.ofString "to"))=false:=by decide +kernel
theorem a3k:((Str.ofString "return") == (Str.ofString "return"))=true:=by decide +kernel
theorem a6z:((Str.ofString "return") == (Str.ofString "dye"))=false:=by decide +kernel
theorem a5j:((Str.ofString "return") == (Str.ofString "call"))=false:=by decide +kernel
theorem a5k:((Str.ofString "return") == (Str.ofString "copy"))=false:=by decide +kernel
theorem a5o:((Str.ofString "return") == (Str.ofString "does"))=false:=by decide +kernel
theorem b3q:((Str.ofString "call") == (Str.ofString "if"))=false:=by decide +kernel
theorem b3j:((Str.ofString "call") == (Str.ofString "to"))=false:=by decide +kernel
theorem a5i:((Str.ofString "call") == (Str.ofString "return"))=false:=by decide +kernel
theorem a9H:((Str.ofString "call") == (Str.ofString "dye"))=false:=by decide +kernel
theorem a9l:((Str.ofString "call") == (Str.ofString "copy"))=false:=by decide +kernel
theorem a9g:((Str.ofString "call") == (Str.ofString "does"))=false:=by decide +kernel
end K64w
namespace L2
open PySem PySem.Spec PyProof.Rows DL
section
variable {X:Cx}
end
end L2
namespace DL
open PySem PySem.Spec L2
section
variable {X:Cx}
def c1c:P2:=fun x y h Q=>match x,y with | .tup a,.tup b=>a.length + b.length <= 16777216/\Q (.tup (a ++ b)) h | _,_=>False
end
end DL
namespace CM
open PySem L2 DL
theorem a2J{α:Type}(xs:List α)(x:α):atI (xs ++ [x]) (-1)=some x:=by
 unfold atI ixN;rw [if_neg (by decide),if_pos (by simp;omega)];show (xs ++ [x])[(-1 + ((xs ++ [x]).length:Int)).toNat]?=some x;rw [show (-1 + ((xs ++ [x]).length:Int)).toNat=xs.length by simp;omega]
 simp
theorem b0s(x:Nat)(l:List Nat):inF (nD x) (l.map nD)=decide (x ∈ l):=by
 rw [Bool.eq_iff_iff];unfold inF;rw [List.any_map,List.any_eq_true,decide_eq_true_iff]
 constructor
 ·rintro ⟨y,hy,he⟩
  have he:(y:Int)=x:=by simpa [eqF] using he
  have:y=x:=by omega
  rw [<- this];exact hy
 ·intro hx;exact ⟨x,hx,by simp [eqF]⟩
theorem b0q{h:Hh}{d:D}{xs:List D}(e:A2 h d=some xs):∃ w,(∀ h',Pre h h'->A4 h' d=some ⟨xs,w⟩)/\∀ ys h',Pre h h'->(Src.mk ys w).ok h':=by
 obtain ⟨w,e1,e2,e3⟩:=a6K e;refine ⟨w,fun h' p=>?_,fun ys h' p z hz=>p _ _ (e2 z hz)⟩;obtain ⟨w',e4,e5,e6⟩:=a6K (p.ls e);rw [e4]
 cases d with
 |lst ys=>cases e1;cases e4;rfl
 |scr ys=>cases e1;cases e4;rfl
 |ref i =>
  have e:(match h[i]? with | some (.lst xs)=>some xs | _=>none)=some xs:=e
  cases q:h[i]? with
  |none=>rw [q] at e;cases e
  |some o =>
   cases o with
   |lst ys =>
    rw [q] at e;cases e;rw [D6 q] at e1;rw [D6 (p _ _ q)] at e4
    cases e1;cases e4;rfl
   |dT _ _=>rw [q] at e;cases e
   |dK _=>rw [q] at e;cases e
   |ins _ _=>rw [q] at e;cases e
 |non=>cases e
 |bl _=>cases e
 |int _=>cases e
 |str _=>cases e
 |tup _=>cases e
 |exc _ _=>cases e
end CM
namespace CM
open PySem L2 DL
end CM
namespace L2
open PySem PySem.Spec PyProof.Rows
section
variable {X:Cx} {pins:List (Addr×Obj)} {σ:St} {H:Hp} {s:Shared}
end
end L2
namespace L2
open PySem PySem.Spec PyProof.Rows
section
variable {X:Cx} {tg:Expr}
end
end L2
namespace L2
open PySem PySem.Spec PyProof.Rows
section
variable {X:Cx}
theorem b5T(hu:X.A.units + 1 < cLine):OpR X (compareOp .In) (fun x y H Q=>∃ a o,y = .ref a/\DGet H a x o/\Q (.bl o.isSome) H):=by
 intro pins s σ H x y v u Q I rx ry h;obtain ⟨a,o,rfl,g,q⟩:=h;cases ry;exact c0q hu I g rx fun s' I'=>⟨.bl _,H,I',rfl,q⟩
end
end L2
namespace DL
open PySem PySem.Spec L2
section
variable {K:KP} {α:List Addr} {H:Hp} {h:Hh}
theorem RelKV.val{κ:Type} [DecidableEq κ]{kvs:List (κ×D)}{us:List (κ×V)}(r:RelKV K α H kvs us)(k:κ):((kvs.find? fun kv=>decide (kv.1=k)).map (·.2)=none/\F9 us k=none)\/∃ d v,(kvs.find? fun kv=>decide (kv.1=k)).map (·.2)=some d/\F9 us k=some v/\RelD K α H d v:=by
 induction r with
 |nil=>exact .inl ⟨rfl,rfl⟩
 |@cons k' d u ds us hr t ih =>
  by_cases c:k'=k
  ·exact .inr ⟨d,u,by rw [List.find?_cons_of_pos (by simpa using c)];rfl,X5 (p:=(k',u)) c,hr⟩
  ·rw [List.find?_cons_of_neg (by simpa using c),X6 (p:=(k',u)) c];exact ih
end
section
variable {X:Cx} {o i e f:Expr} {fd fk fx:DE} {pos apos cpos:Pos}
end
section
variable {X:Cx} {o i value:Expr} {fd fk fv:DE} {pos pos':Pos}
end
section
variable {X:Cx} {tg:Expr}
end
end DL
namespace L2
open PySem PySem.Spec PyProof.Rows
section
variable {X:Cx} {pins:List (Addr×Obj)} {σ:St} {H:Hp} {s:Shared} {a:Addr} {kvs:List (Key×V)} {k:Key} {v:V} {u r:Value} {A:Around} {E:Value->Shared->Prop}
theorem a5z{Q:Value->Shared->Prop}(I:Inv X pins σ H s)(e:H a=some (.dK kvs))(ry:RelV (kV k) u)(rv:RelV v r)(l:kvs.length < sizeLine)
  (h1:∀ v0,F9 kvs k=some v0->∀ w' s',Inv X pins σ H s'->RelV v0 w'->Q w' s') (h2:F9 kvs k=none->∀ s',Inv X pins σ (upd H a (.dK (putK kvs k v))) s'->Q r s') :
  wpAny (model X.prog X.w) A (call (.builtin "dict.setdefault") [.ref a,u,r]) Q E s:=by
 obtain ⟨z,hd,vs,rel,dd⟩:=b7L I.hok e;have hz:vs.length <= sizeLine:=by rw [<- rel.length];exact z
 have hl:(putK kvs k v).length <= sizeLine:=by have:=a1H kvs k v;omega
 refine call_meetsIn PySem.F.slot_dict_setdefault dd.typeIs PySem.F.entry_dict_setdefault (PySem.F.args_dict_setdefault_3 _ _ _) (kt_meets_setdefault (n5 X.prog X.w) a (a1E ry) hd r) ⟨vs,dd,hz,fun w' hw=>?_,fun hn h' dd' hs=>?_⟩
 ·cases q:F9 kvs k with
  |none=>have:=rel.val k;rw [q,hw] at this;cases this
  |some v0 =>
   obtain ⟨w2,e2,r2⟩:=RelO.some_of (v:=v0) (o:=valueAt vs k) (by rw [<- q];exact rel.val k);rw [hw] at e2;cases e2;exact h1 v0 q _ _ (I.tok _) r2
 ·have q:F9 kvs k=none:=by
   cases q:F9 kvs k with
   |none=>rfl
   |some v0=>have:=rel.val k;rw [q,hn] at this;cases this
  have he:∃ q,h'.get? a=some q:=let ⟨q,_,_,hq,_⟩:=dd';⟨q,hq⟩
  exact h2 q _ (b1h I (by rw [e];exact True.intro) hs he (b4h hl hd (rel.put k rv) dd'))
end
def b7p(td ty tx:TE):TE:=fun σ H Q=>td σ H fun x H1=>∃ a,x = .ref a/\IsD H1 a/\ty σ H1 fun y H2=>tx σ H2 fun z H3=>∃ kvs k,H3 a=some (.dK kvs)/\y=kV k/\kvs.length < sizeLine /\
 (∀ v,F9 kvs k=some v->Q v H3)/\(F9 kvs k=none->Q z (upd H3 a (.dK (putK kvs k z))))
theorem a9O{X:Cx}{o e f:Expr}{apos cpos:Pos}{td ty tx:TE}(ho:PE X o td)(he:PE X e ty)(hf:PE X f tx)(m:M2 X o "setdefault" apos e f cpos):PE X (.Call (.Attribute o "setdefault" apos) [e,f] [] cpos) (b7p td ty tx):=by
 intro pins s σ H Q I h;refine wpAny_Call_method m.base m.few m.line PySem.F.plainAttrs_dict PySem.F.slot_dict_setdefault PySem.F.type_dict_setdefault (thn (ho pins s σ H _ I h) fun u s1 zz0=>?_);obtain ⟨x,H1,I1,rx,a,ex,d,q1⟩:=zz0;subst ex
 obtain rfl:u=Value.ref a:=rx
 obtain ⟨t1,t2,_⟩:=b5V I1 d;refine ⟨t1,t2,?_⟩;rw [m.trees]
 refine Calls.callWith_builtin rfl (Calls.evalArgs_plain (Calls.spliced_cons (thn (he pins s1 σ H1 _ I1 q1) fun iv s2 ⟨y,H2,I2,ry,q2⟩ =>
  Calls.spliced_cons (thn (hf pins s2 σ H2 _ I2 q2) fun fv s3 ⟨z,H3,I3,rz,kvs,k,ea,ey,l,g1,g2⟩=>Calls.spliced_nil ?_))))
 subst ey;exact a5z I3 ea ry rz l (fun v0 hv w' s' I' rw'=>⟨v0,H3,I',rw',g1 v0 hv⟩) (fun hn s' I'=>⟨z,_,I',rz,g2 hn⟩)
end L2
namespace DL
open PySem PySem.Spec L2
def a1r(kvs:List (Key×D))(k:Key):Option D:=(kvs.find? fun kv=>decide (kv.1=k)).map (·.2)
def a4b(kvs:List (Key×D))(k:Key)(v:D):List (Key×D) :=
 if (kvs.any fun kv=>decide (kv.1=k))=true then kvs.map (fun kv=>if kv.1=k then (kv.1,v) else kv) else kvs ++ [(k,v)]
def a4s(d k:D)(h:Hh)(Q:Option D->Prop):Prop:=match d with
 |.ref i=>match h[i]? with
  |some (.dK kvs)=>∃ s:Str,k = .str s/\Q (a1r kvs (.inr s))
  |_=>False
 |_=>False
section
variable {K:KP} {α:List Addr} {H:Hp} {h:Hh}
theorem RelKV.putK{kvs:List (Key×D)}{us:List (Key×V)}(r:RelKV K α H kvs us)(k:Key){d:D}{v:V}(rd:RelD K α H d v):RelKV K α H (a4b kvs k d) (L2.putK us k v):=by
 have any:∀ {kvs:List (Key×D)} {us:List (Key×V)},RelKV K α H kvs us->(kvs.any fun kv=>decide (kv.1=k))=(us.any fun kv=>decide (kv.1=k)):=fun r=>by
  induction r with
  |nil=>rfl
  |cons _ _ ih=>rw [List.any_cons,List.any_cons,ih]
 unfold a4b L2.putK;rw [any r]
 by_cases c:(us.any fun kv=>decide (kv.1=k))=true
 ·rw [if_pos c,if_pos c];clear c any
  induction r with
  |nil=>exact .nil
  |@cons k' d' u' ds us hr t ih =>
   rw [List.map_cons,List.map_cons]
   by_cases c:k'=k
   ·rw [if_pos c,if_pos c];exact .cons rd ih
   ·rw [if_neg c,if_neg c];exact .cons hr ih
 ·rw [if_neg c,if_neg c];clear c any
  induction r with
  |nil=>exact .cons rd .nil
  |cons hr t ih=>exact .cons hr ih
theorem RelKV.len{κ:Type}{kvs:List (κ×D)}{us:List (κ×V)}(r:RelKV K α H kvs us):kvs.length=us.length:=by
 induction r with
 |nil=>rfl
 |cons _ _ ih=>rw [List.length_cons,List.length_cons,ih]
theorem a0v{d k:D}{v u:V}{Q:Option D->Prop}(R:HRel K α H h)(r1:RelD K α H d v)(r2:RelD K α H k u)(f:a4s d k h Q) :
  ∃ a o od,v = .ref a/\DGet H a u o/\Q od/\((od=none/\o=none)\/∃ x y,od=some x/\o=some y/\RelD K α H x y):=by
 unfold a4s at f
 cases r1 with
 |@ref i a hp =>
  dsimp only at f
  cases q:h[i]? with
  |none=>rw [q] at f;exact f.elim
  |some ob =>
   rw [q] at f
   cases ob with
   |dK kvs =>
    obtain ⟨s,rfl,f⟩:=f;cases r2;obtain ⟨p,us,e1,e2,e3⟩:=R.dK q;rw [hp] at e1;cases e1;refine ⟨a,F9 us (.inr s),a1r kvs (.inr s),rfl,DGet.k (k:=(Sum.inr s:Key)) e2,f,?_⟩
    rcases e3.val (Sum.inr s:Key) with ⟨h1,h2⟩ | ⟨x,y,h1,h2,h3⟩
    ·exact .inl ⟨h1,h2⟩
    ·exact .inr ⟨x,y,h1,h2,h3⟩
   |_=>exact f.elim
 |_=>exact f.elim
end
def b8P(neg:Bool):P2:=fun x y h Q=>a4s y x h fun o=>Q (.bl (if neg then !o.isSome else o.isSome)) h
def a3T(fd fk:DE):DE:=fun δ h Q=>fd δ h fun d h1=>fk δ h1 fun k h2=>a4s d k h2 fun o=>∃ v,o=some v/\Q v h2
def b2V:DE:=fun _ h Q=>Q (.ref h.length) (h ++ [.dK []])
def b2E(fd fk fx:DE):DE:=fun δ h Q=>fd δ h fun d h1=>match d with
 |.ref i=>(∃ kvs,h1[i]?=some (.dK kvs))/\fk δ h1 fun k h2=>match k with
  |.str s=>fx δ h2 fun x h3=>∃ kvs,h3[i]?=some (.dK kvs)/\kvs.length < 16777216/\a1r kvs (.inr s)=none/\Q x (h3.set i (.dK (a4b kvs (.inr s) x)))
  |_=>False
 |_=>False
section
variable {X:Cx} {o i e f:Expr} {fd fk fx:DE} {pos apos cpos:Pos}
theorem b6y(hu:X.A.units + 64 < cLine):OpR X (compareOp .In) (r2 X.K (b8P false)):=OpR.imp (b5T (by omega)) fun x y H Q ⟨π,α,h,d,e,Q',R,r1,r2,f,k⟩=>by
 obtain ⟨a,o,od,rfl,g,q,rel⟩:=a0v R r2 r1 f;refine ⟨a,o,rfl,g,k _ h α H _ q (Ext.refl ..) R ?_⟩
 rcases rel with ⟨rfl,rfl⟩ | ⟨x,y,rfl,rfl,_⟩ <;> exact .bl _
theorem a0W(hu:X.A.units + 64 < cLine)(ho:SE X o fd)(hi:SE X i fk)(hs:b5Y i:=by exact fun _ _=>rfl):SE X (.Subscript o i pos) (a3T fd fk):=PE.imp (b0v (by omega) ho hi hs) fun σ H Q zz=>by
 obtain ⟨π,α,δ,h,Q',R,S,f,k⟩:=zz;refine ⟨π,α,δ,h,_,R,S,f,fun d h1 α1 H1 v1 f1 e1 R1 q1=>?_⟩;refine ⟨π,α1,δ,h1,_,R1,S.mono e1,f1,fun y h2 α2 H2 v2 f2 e2 R2 q2=>?_⟩;obtain ⟨a,o,od,rfl,g,⟨v,rfl,q⟩,rel⟩:=a0v R2 (q1.mono e2) q2 f2
 rcases rel with ⟨z,_⟩ | ⟨x,y,z,rfl,r⟩
 ·cases z
 ·cases z;exact ⟨a,y,rfl,g,k _ h2 α2 H2 _ q (e1.trans e2) R2 r⟩
theorem b1Y:SE X (.Dict [] [] pos) b2V:=PE.imp a6a fun σ H Q zz=>by
 obtain ⟨π,α,δ,h,Q',R,S,f,k⟩:=zz;intro p hp;have e:Ext α H (α ++ [p]) (upd H p (.dK [])):=Ext.newT hp;refine k _ _ (α ++ [p]) _ _ f e (R.newT hp (.dK l9 .nil)) (.ref ?_);rw [<- R.len];simp
theorem b1y(ho:SE X o fd)(he:SE X e fk)(hf:SE X f fx)(m:M2 X o "setdefault" apos e f cpos):SE X (.Call (.Attribute o "setdefault" apos) [e,f] [] cpos) (b2E fd fk fx):=PE.imp (a9O ho he hf m) fun σ H Q zz=>by
 obtain ⟨π,α,δ,h,Q',R,S,f,k⟩:=zz;refine ⟨π,α,δ,h,_,R,S,f,fun d h1 α1 H1 v1 f1 e1 R1 q1=>?_⟩
 cases q1 with
 |@ref i a hp =>
  obtain ⟨⟨kvs,e0⟩,f1⟩:=f1;obtain ⟨p,us,z1,z2,z3⟩:=R1.dK e0;rw [hp] at z1;cases z1;refine ⟨a,rfl,.inl ⟨us,.inl z2⟩,π,α1,δ,h1,_,R1,S.mono e1,f1,fun y h2 α2 H2 v2 f2 e2 R2 q2=>?_⟩
  cases q2 with
  |str s =>
   refine ⟨π,α2,δ,h2,_,R2,S.mono (e1.trans e2),f2,fun x h3 α3 H3 v3 f3 e3 R3 q3=>?_⟩;obtain ⟨kvs,e4,hl,hn,q⟩:=f3;have hp3:α3[i]?=some a:=(e2.trans e3).get hp;obtain ⟨p,us,z1,z2,z3⟩:=R3.dK e4;rw [hp3] at z1;cases z1;have ee:Ext α3 H3 α3 (upd H3 a (.dK (L2.putK us (.inr s) v3))):=Ext.write (List.mem_of_getElem? hp3);refine ⟨us,.inr s,z2,rfl,by rw [sizeLine_eq,<- z3.len];exact hl,fun v0 hv=>?_,fun _=>?_⟩
   ·rcases z3.val (Sum.inr s:Key) with ⟨h1,h2⟩ | ⟨x,y,h1,h2,h3⟩
    ·rw [h2] at hv;cases hv
    ·exact absurd (hn.symm.trans h1) (by simp)
   ·exact k _ _ α3 _ _ q (e1.trans (e2.trans (e3.trans ee))) (R3.write hp3 (.dK l9 ((z3.putK _ q3).mono ee))) (q3.mono ee)
  |_=>exact f2.elim
 |_=>exact f1.elim
end
end DL
namespace L2
open PySem PySem.Spec PyProof.Rows
open Builtin Builtin.Str
section
variable {prog:Program} {w:World} {A:Around} {E:Value->Shared->Prop} {s:Shared} {x y:Str} {t u:Tok} {Q:Value->Shared->Prop}
theorem a2p(hy:(y.length == 0)=false)(hq:∀ (l:List (Str×Tok)) (k:Nat),l.map (·.1)=Txt.split x y->Q (.ref s.heap.objs.size) { s with heap:=s.heap.push { cls:=.type "list",data:=.seq (strValues l).toArray },toks:=k })
  (hsz:x.length <= sizeLine) (hsz2:(partsBetween x (occurrences x y 0 x.length (x.length + 1)) y.length).length <= sizeLine) :
  wpAny (model prog w) A (call (.builtin "str.split") [.str x t,.str y u]) Q E s:=by
 cases h1:(decide (x.length < y.length) || decide (strKind x < strKind y))
 ·cases hf:(occurrences x y 0 x.length (x.length + 1)).isEmpty
  ·refine call_meets F.slot_str_split (typeIs_str _ _ _) F.entry_str_split (F.args_str_split_2 _ _) (meets_str_split_sep x y t u h1 hy hf hsz hsz2) ?_;show wants Q E _ { s with toks:=_,heap:=s.heap.push { cls:=.type "list",data:=.seq (strsFrom s.toks (partsBetween x (occurrences x y 0 x.length (x.length + 1)) y.length)).toArray } };rw [strsFrom_eq];exact hq (numbered s.toks _) _ ((numbered_texts _ _).trans ((if_neg (ne_true_of_eq_false h1)).trans (if_neg (ne_true_of_eq_false hf))).symm)
  ·exact call_meets F.slot_str_split (typeIs_str _ _ _) F.entry_str_split (F.args_str_split_2 _ _) (meets_str_split_not_found x y t u h1 hy hf)
    (hq [(x,t)] s.toks ((if_neg (ne_true_of_eq_false h1)).trans (if_pos hf)).symm)
 ·exact call_meets F.slot_str_split (typeIs_str _ _ _) F.entry_str_split (F.args_str_split_2 _ _) (meets_str_split_cannot_occur x y t u h1)
   (hq [(x,t)] s.toks (if_pos h1).symm)
end
theorem a0b:∀ (l:List (Str×Tok)),Vals ((l.map (·.1)).map V.str) (strValues l)
 |[]=>.nil
 |p :: l=>.cons ⟨p.2,rfl⟩ (a0b l)
theorem a0d:∀ {xs:List Str} {us:List Value},Vals (xs.map V.str) us->∃ l:List (Str×Tok),us=strValues l/\l.map (·.1)=xs
 |[],us,h=>by cases h;exact ⟨[],rfl,rfl⟩
 |x :: xs,us,h=>by
  cases h with
  |cons r h =>
   obtain ⟨l,e1,e2⟩:=a0d h;obtain ⟨t,rfl⟩:=r;exact ⟨(x,t) :: l,by rw [e1];rfl,by rw [<- e2];rfl⟩
section
variable {X:Cx}
theorem a5t:MtR X "str.split" (fun x xs H Q=>∃ s y,x = .str s/\xs=[.str y]/\(y.length == 0)=false/\s.length <= 16777216/\(partsBetween s (occurrences s y 0 s.length (s.length + 1)) y.length).length <= 16777216/\(Txt.split s y).length <= 16777216/\∀ l,H l=none->Q (.ref l) (upd H l (.lst ((Txt.split s y).map V.str)))):=by
 intro pins s σ H x vs v us Q I rx rv h;obtain ⟨a,y,rfl,rfl,hy,h1,h2,h3,q⟩:=h;obtain ⟨t,rfl⟩:=rx;obtain ⟨u,rfl,ru⟩:=A8 rv;obtain ⟨t',rfl⟩:=ru;refine a2p hy (fun l k e=>?_) (by rw [sizeLine_eq];exact h1) (by rw [sizeLine_eq];exact h2);refine ⟨.ref s.heap.objs.size,_,I.laid (fun b o e=>Heap.get?_push_of_some _ e) (Nat.le_refl _) (show ObjOk X.prog X.w _ _ _ (.lst ((Txt.split a y).map V.str)) from ⟨by rw [sizeLine_eq,List.length_map];exact h3,strValues l,_,by rw [<- e];exact a0b l,Heap.get?_push_size _ rfl⟩),rfl,q _ (I.hok.fresh (Nat.le_refl _))⟩
theorem b1Z:MtR X "str.join" (fun x xs H Q=>∃ s p ts,x = .str s/\xs=[.ref p]/\SqL X.K H p (ts.map V.str)/\JoinOk s ts=true/\Q (.str (Txt.join s ts)) H):=by
 intro pins s σ H x vs v us Q I rx rv h;obtain ⟨a,p,ts,rfl,rfl,sq,hj,q⟩:=h;obtain ⟨t,rfl⟩:=rx;obtain ⟨u,rfl,ru⟩:=A8 rv;cases ru;obtain ⟨its,rv,pl,hz⟩:=I.list sq;obtain ⟨l,rfl,e2⟩:=a0d rv;exact SC.join pl.isList e2 hj fun t' k=>⟨.str _,H,I.tok _,⟨_,rfl⟩,q⟩
theorem a8o:MtR X "str.strip" (fun x xs H Q=>∃ s,x = .str s/\xs=[]/\s.length <= 16777216/\Q (.str (Txt.strip s)) H):=by
 intro pins s σ H x vs v us Q I rx rv h;obtain ⟨a,rfl,rfl,hl,q⟩:=h;obtain ⟨t,rfl⟩:=rx;cases rv;refine call_meets F.slot_str_strip (typeIs_str _ _ _) F.entry_str_strip (F.args_str_strip_1 _) (Gives.meets (gives_str_strip a t)) ?_;exact post_val_or_made (fun _=>fits_stripped _ _ _ (by rw [sizeLine_eq];exact hl)) (fun t' k=>⟨.str _,H,I.tok _,⟨_,rfl⟩,q⟩)
end
end L2
namespace DL
open PySem PySem.Spec L2
open Builtin Builtin.Str
theorem X4{K:KP}{α:List Addr}{H:Hp}:∀ (xs:List Str),RelDs K α H (xs.map D.str) (xs.map V.str)
 |[]=>.nil
 |x :: xs=>.cons (.str x) (X4 xs)
theorem G9{K:KP}{α:List Addr}{H:Hp}:∀ {xs:List Str} {us:List V},RelDs K α H (xs.map D.str) us->us=xs.map V.str
 |[],us,h=>by cases h;rfl
 |x :: xs,us,h=>by
  cases h with
  |cons r h=>cases r;rw [G9 h];rfl
theorem Z7{x y:Str}(h:x.length <= 1000000):(partsBetween x (occurrences x y 0 x.length (x.length + 1)) y.length).length <= 16777216/\(Txt.split x y).length <= 16777216:=by
 have e1:=StrLaws.occ_length_le x y 0 x.length (x.length + 1);have e2:(partsBetween x (occurrences x y 0 x.length (x.length + 1)) y.length).length <= 16777216:=by rw [length_partsBetween];omega
 refine ⟨e2,?_⟩;unfold Txt.split;split
 ·exact (show 1 <= 16777216 by decide)
 ·split
  ·exact (show 1 <= 16777216 by decide)
  ·exact e2
def a2H(fo:DE)(fs:DA):DN:=fun δ h Q=>fo δ h fun d h1=>match d with
 |.str x=>fs δ h1 fun ds h2=>match ds with
  |[.str y]=>(y.length == 0)=false/\x.length <= 1000000/\Q ((Txt.split x y).map .str) h2
  |_=>False
 |_=>False
def S9(fo:DE)(fs:DA):DE:=fun δ h Q=>fo δ h fun d h1=>match d with
 |.str x=>fs δ h1 fun ds h2=>match ds with
  |[l]=>∃ xs:List Str,A2 h2 l=some (xs.map D.str)/\JoinOk x xs=true/\Q (.str (Txt.join x xs)) h2
  |_=>False
 |_=>False
def a7M(fo:DE):DE:=fun δ h Q=>fo δ h fun d h1=>match d with | .str x=>x.length <= 16777216/\Q (.str (Txt.strip x)) h1 | _=>False
section
variable {X:Cx} {e:Expr} {fe:DE} {apos cpos:Pos}
theorem a1o{a:Expr}{fa:DA}{n:Nat}(ho:SE X e fe)(ha:SA X [a] n fa)(hbase:attributeBase e "split" X.env (eval e X.env)=eval e X.env:=by rfl)
  (hfew:((backTo cpos (starEach [a] X.env)).all (fun x=>!x.1) && (backToKw cpos (keywordEach [] X.env)).all (fun x=>x.1.isSome)
   && decide ([a].length + ([]:List Keyword).length + (if ([]:List Keyword).isEmpty then 0 else 1) < 30))=true:=by rfl)
  (hline:(apos.endLine == cpos.line)=true:=by rfl) (hs:starEach [a] X.env=(false,eval a X.env) :: starEach [] X.env:=by rfl) (hplain:(backTo cpos (starEach [] X.env)).any (·.1)=false:=by rfl) :
  SN X (.Call (.Attribute e "split" apos) [a] [] cpos) (a2H fe fa) :=
 PE.imp (X3 PySem.F.plainAttrs_str PySem.F.slot_str_split PySem.F.type_str_split a5t ho ha hbase hfew hline hs hplain) fun σ H Q zz0=>by
  obtain ⟨π,α,δ,h,Q',R,S,f,k⟩:=zz0;refine ⟨π,α,δ,h,_,R,S,f,fun d h1 α1 H1 v1 f1 e1 R1 q1=>?_⟩
  cases q1 with
  |str x =>
   refine ⟨rfl,π,α1,δ,h1,_,R1,S.mono e1,f1,fun ds h2 α2 H2 vs f2 e2 R2 q2 l2=>?_⟩
   split at f2
   ·rename_i y;obtain ⟨hy,z1,q⟩:=f2;obtain ⟨z2,z3⟩:=Z7 (x:=x) (y:=y) z1;obtain ⟨v,rfl,q3⟩:=q2.inv1;cases q3;exact ⟨x,y,rfl,rfl,hy,by omega,z2,z3,fun l hl=>LN.last (h:=h) k q (e1.trans e2) R2 (X4 _) hl⟩
   ·exact f2.elim
  |_=>exact f1.elim
theorem J2{a:Expr}{fa:DA}{n:Nat}(ho:SE X e fe)(ha:SA X [a] n fa)(hbase:attributeBase e "join" X.env (eval e X.env)=eval e X.env:=by rfl)
  (hfew:((backTo cpos (starEach [a] X.env)).all (fun x=>!x.1) && (backToKw cpos (keywordEach [] X.env)).all (fun x=>x.1.isSome)
   && decide ([a].length + ([]:List Keyword).length + (if ([]:List Keyword).isEmpty then 0 else 1) < 30))=true:=by rfl)
  (hline:(apos.endLine == cpos.line)=true:=by rfl) (hs:starEach [a] X.env=(false,eval a X.env) :: starEach [] X.env:=by rfl) (hplain:(backTo cpos (starEach [] X.env)).any (·.1)=false:=by rfl) :
  SE X (.Call (.Attribute e "join" apos) [a] [] cpos) (S9 fe fa) :=
 PE.imp (X3 PySem.F.plainAttrs_str PySem.F.slot_str_join PySem.F.type_str_join b1Z ho ha hbase hfew hline hs hplain) fun σ H Q zz0=>by
  obtain ⟨π,α,δ,h,Q',R,S,f,k⟩:=zz0;refine ⟨π,α,δ,h,_,R,S,f,fun d h1 α1 H1 v1 f1 e1 R1 q1=>?_⟩
  cases q1 with
  |str x =>
   refine ⟨rfl,π,α1,δ,h1,_,R1,S.mono e1,f1,fun ds h2 α2 H2 vs f2 e2 R2 q2 l2=>?_⟩
   split at f2
   ·rename_i l;obtain ⟨xs,hl,hj,q⟩:=f2;obtain ⟨v,rfl,q3⟩:=q2.inv1;obtain ⟨p,us,rfl,sq,rel⟩:=B2 R2 q3 hl;rw [G9 rel] at sq;exact ⟨x,p,xs,rfl,rfl,sq,hj,k _ h2 α2 H2 _ q (e1.trans e2) R2 (.str _)⟩
   ·exact f2.elim
  |_=>exact f1.elim
theorem a5P(ho:SE X e fe)(hbase:attributeBase e "strip" X.env (eval e X.env)=eval e X.env:=by rfl)(hline:(apos.endLine == cpos.line)=true:=by rfl) :
  SE X (.Call (.Attribute e "strip" apos) [] [] cpos) (a7M fe) :=
 PE.imp (a5L PySem.F.plainAttrs_str PySem.F.slot_str_strip PySem.F.type_str_strip a8o ho hbase hline) fun σ H Q zz0=>by
  obtain ⟨π,α,δ,h,Q',R,S,f,k⟩:=zz0;refine ⟨π,α,δ,h,_,R,S,f,fun d h1 α1 H1 v1 f1 e1 R1 q1=>?_⟩
  cases q1 with
  |str x=>exact ⟨rfl,x,rfl,rfl,f1.1,k _ h1 α1 H1 _ f1.2 e1 R1 (.str _)⟩
  |_=>exact f1.elim
end
end DL
namespace TXS
open PySem PySem.Spec PyProof.Rows L2
theorem a4D{prog:Program}{w:World}{h:Heap}{a:Addr}{S S':Key->Bool}{n n':Nat}(hS:h.SetOf (n5 prog w) a S n)(e:∀ k,S k=S' k)(en:n=n'):h.SetOf (n5 prog w) a S' n':=by
 have:S=S':=funext e
 subst this;subst en;exact hS
def has(xs:List Str)(k:Key):Bool:=xs.any fun x=>decide ((Sum.inr x:Key)=k)
theorem a1x:∀ {xs:List Str} {us:List Value},Vals (xs.map V.str) us->∀ (i:Nat) (v:Value),us[i]?=some v->∃ x t,xs[i]?=some x/\v = .str x t
 |[],us,h,i,v,e=>by cases h;simp at e
 |x :: xs,us,h,i,v,e=>by
  cases h with
  |cons r h =>
   cases i with
   |zero=>obtain ⟨t,rfl⟩:=r;simp at e;exact ⟨x,t,rfl,e.symm⟩
   |succ i=>exact a1x h i v (by simpa using e)
section
variable {prog:Program} {w:World} {A:Around} {R:Result->Shared->Prop} {I:Addr} {fp wr:List Addr} {G:Array GenState->Array GenState->Prop} {n:Nat} {P:Nat->Value->Prop} {St:Nat->Shared->Prop} {xs:List Str}
theorem a4H(W:WalksS prog w A.in1 I fp wr G n P St)(S:Addr)(hSf:S ∉ fp)(hn:xs.length=n)(nd:xs.Nodup)(hb:xs.length < 1000)(hval:∀ i v,P i v->∃ x t,xs[i]?=some x/\v = .str x t) :
  ∀ (k i:Nat) (s:Shared),n - i=k->i <= n->St i s->s.heap.SetOf (n5 prog w) S (has (xs.take i)) i ->
   (∀ s',Moved (S :: wr) G s s'->s'.heap.SetOf (n5 prog w) S (has xs) xs.length->R (.ok (.ret .none)) s') ->
   codeAny (model prog w) A (.builtin "set.update.loop" ⟨[.ref S,.ref I],[]⟩) R s:=by
 have hSw:S ∉ wr:=fun h=>hSf (W.sub _ h);have hsub:∀ b ∈ wr,b ∈ S :: wr:=fun b hb=>List.mem_cons_of_mem _ hb
 have mv:∀ {s s':Shared} {T:Key->Bool} {m:Nat},s.heap.SetOf (n5 prog w) S T m->Moved wr G s s'->s'.heap.SetOf (n5 prog w) S T m:=fun hS hm=>by
  obtain ⟨o,es,ep,t,ho,rest⟩:=hS;exact ⟨o,es,ep,t,hm.heap S _ hSw ho,rest⟩
 intro k
 induction k with
 |zero =>
  intro i s hk hi hst hS hR;have hin:i=n:=by omega
  subst hin;refine codeAny_builtin F.entry_set_update_loop ?_;rw [Around.under_plainId F.plain_set_update_loop _];show wpAny _ A.in1 (pyNext (.ref I) >>= _) _ _ s;refine wpAny_bind (W.done s _ _ hst fun s' hm=>?_);show wpAny _ A.in1 (ret Value.none) _ _ s';rw [<- hn,List.take_length] at hS;exact wpAny_pure (hR s' (hm.mono hsub) (mv hS hm))
 |succ k ih =>
  intro i s hk hi hst hS hR;have hlt:i < n:=by omega
  refine codeAny_builtin F.entry_set_update_loop ?_;rw [Around.under_plainId F.plain_set_update_loop _];show wpAny _ A.in1 (pyNext (.ref I) >>= _) _ _ s;refine wpAny_bind (W.item i s _ _ hlt hst fun v s' hP hst' hm=>?_);obtain ⟨x,t,he,rfl⟩:=hval i v hP;have hS':=mv hS hm;have hkey:(n5 prog w).is (Sum.inr x) (.str x t)=true:=a1E (k:=Sum.inr x) ⟨t,rfl⟩;show wpAny _ A.in1 (holding [Value.str x t] (setAdd S (.str x t)) >>= _) _ _ s';refine wpAny_bind (wpAny_holding ?_);unfold setAdd;refine wpAny_holding ?_;refine wpAny_bind ((n5 prog w).pyHash hkey ?_);refine wpAny_setAddHashed_of (knd:=n5 prog w) (s:={ s' with toks:=s'.toks + 1 }) hkey rfl hS' (by unfold scanBound;omega) fun h' hsb hS2=>?_
  have new:has (xs.take i) (Sum.inr x)=false:=by
   unfold has;rw [List.any_eq_false];intro y hy e;have e:y=x:=Sum.inr.inj (of_decide_eq_true e);subst e;obtain ⟨j,hj⟩:=List.getElem?_of_mem hy
   have hjl:j < i:=by
    have:=(List.getElem?_eq_some_iff.mp hj).1
    rw [List.length_take] at this;omega
   rw [List.getElem?_take_of_lt hjl] at hj;obtain ⟨l1,g1⟩:=List.getElem?_eq_some_iff.mp hj;obtain ⟨l2,g2⟩:=List.getElem?_eq_some_iff.mp he
   have:=List.getElem_inj (h₀:=l1) (h₁:=l2) nd |>.mp (g1.trans g2.symm)
   omega
  have hSi:h'.SetOf (n5 prog w) S (has (xs.take (i + 1))) (i + 1):=a4D hS2 (fun k'=>by
   unfold has;rw [List.take_add_one,he,List.any_append];simp only [Option.toList_some,List.any_cons,List.any_nil,Bool.or_false]
   congr 1
   exact decide_eq_decide.mpr eq_comm) (by rw [new];rfl)
  refine wpAny_pure ⟨plainId_quiet F.plain_set_update_loop _,ih (i + 1) _ (by omega) hlt (W.frame _ s' _ _ hst' (Nat.le_succ _) fun b hb o e=>?_) hSi fun s'' hm'' hS''=>?_⟩
  ·rw [hsb.2 b (fun h:b=S=>hSf (by rw [<- h];exact hb))];exact e
  ·refine hR s'' (Moved.trans W.gtrans ((hm.mono hsub).then_heap (Nat.le_succ _) fun b o hb e=>?_) hm'') hS'';rw [hsb.2 b (fun h:b=S=>hb (by rw [h];exact List.mem_cons_self))];exact e
end
section
variable {prog:Program} {w:World} {A:Around} {E:Value->Shared->Prop} {s:Shared}
def E9(w:World):Bool:=w.params.followText "set-order"
theorem p8(a:Value){Q₁:Value->Shared->Prop}
  (h:Q₁ (.ref s.heap.objs.size) { s with heap:=s.heap.push { cls:=.type "set",dict:=none,data:=.set #[] 0 (.fresh 0 0 (!E9 w)) } }) :
  codeAny (model prog w) A (.call (.builtin "set.__new__") ⟨[.type "set",a],[]⟩) (wants Q₁ E) s:=by
 refine codeAny_of_tree ?_;show wpAny _ A.in1 (do checkBuiltinCall "set.__new__" ⟨[.type "set",a],[]⟩;again (.builtin "set.__new__" ⟨[.type "set",a],[]⟩)) _ _ s;refine wpAny_bind (wpAny_of_eq (PySem.F.newCall_set_1 a) (wpAny_pure ⟨plainId_quiet PySem.F.plain_set_new _,codeAny_builtin PySem.F.entry_set_new ?_⟩));rw [Around.under_plainId PySem.F.plain_set_new _];unfold Builtin.«set.__new__» Builtin.Frozenset.newClass;have hsub:=PySem.sub_set_self;obtain ⟨hp,g,d,tk,os⟩:=s;dsimp only
 wp_walk
 refine wpAny_askSetting (wpAny_pure ?_);dsimp only;simp only [newObj];refine wpAny_bind (wpAny_alloc (wpAny_pure ?_));exact wpAny_pure h
set_option maxHeartbeats 3200000 in
theorem U9{l:Addr}{items:Array Value}{xs:List Str}{Q:Value->Shared->Prop}(hh:A.handled=none)(hl:s.heap.IsList l items)(hi:Vals (xs.map V.str) items.toList)(nd:xs.Nodup)(hb:xs.length < 1000)
  (h:∀ (h':Heap) (tk:Nat),h'.SetOf (n5 prog w) s.heap.objs.size (has xs) xs.length->(∀ b o,s.heap.get? b=some o->h'.get? b=some o)->Q (.ref s.heap.objs.size) { s with heap:=h',toks:=tk }) :
  wpAny (model prog w) A (call (.type "set") [.ref l]) Q E s:=by
 obtain ⟨c,tl,hmro⟩:=PySem.F.called_set.mro;have hmade:=PySem.F.called_set.made;have hsub:=PySem.F.called_set.sub;refine wpAny_call (codeAny_of_tree ?_);show wpAny _ _ (callAny (.type "set") _) _ _ _;refine wpAny_pure ⟨Code.quiet_builtin _ (by decide +kernel),codeAny_builtin PySem.F.entry_type_call ?_⟩;rw [Around.under_plain (weight_type_call_type "set" [.ref l] []) rfl];have h1:=PySem.F.called_set.notType;have h2:=PySem.F.called_set.canCreate;have hct:=PySem.F.typeCall_set_1 (.ref l)
 repeat (any_goals (first | assumption | wp_step))
 refine codeAny_mono (p8 (.ref l) (E:=E) (Q₁:=fun obj s₁=>obj = .ref s.heap.objs.size/\s₁={ s with heap:=s.heap.push { cls:=.type "set",dict:=none,data:=.set #[] 0 (.fresh 0 0 (!E9 w)) } }) ⟨rfl,rfl⟩) fun r s₁ hr=>?_
 cases r with
 |error e=>exact hr
 |ok fl =>
  cases fl with
  |ret obj =>
   obtain ⟨rfl,rfl⟩:=hr;have hS:(s.heap.push { cls:=.type "set",dict:=none,data:=.set #[] 0 (.fresh 0 0 (!E9 w)) }).get? s.heap.objs.size=some { cls:=.type "set",dict:=none,data:=.set #[] 0 (.fresh 0 0 (!E9 w)) }:=Heap.get?_push_size _ rfl;have hT:Shared.TypeIs { s with heap:=s.heap.push { cls:=.type "set",dict:=none,data:=.set #[] 0 (.fresh 0 0 (!E9 w)) } } (.ref s.heap.objs.size) "set":=⟨_,hS,rfl⟩
   have hli:=PySem.F.called_set.init.lookup;have hbi:=PySem.F.called_set.init.bind (.ref s.heap.objs.size)
   repeat (any_goals (first | assumption | wp_step))
   refine codeAny_mono (codeAny_call_builtin (R:=wants (fun r s₂=>r = .none/\∃ h' tk,s₂={ s with heap:=h',toks:=tk }/\h'.SetOf (n5 prog w) s.heap.objs.size (has xs) xs.length /\
     (∀ b o,s.heap.get? b=some o->h'.get? b=some o)) E) PySem.F.called_set.init.plain PySem.F.entry_set_init (check_set_init_1 hT ?_)) fun r₂ s₂ hr₂=>?_
   ·obtain ⟨ol,hol,hcl,nl,hdl⟩:=hl;obtain ⟨ocls,odict,odata,oslots⟩:=ol
    simp only at hcl hdl
    subst hcl;subst hdl;have hol':(s.heap.push { cls:=.type "set",dict:=none,data:=.set #[] 0 (.fresh 0 0 (!E9 w)) }).get? l=some { cls:=.type "list",dict:=odict,data:=.seq items nl,slots:=oslots }:=Heap.get?_push_of_some _ hol;have hsls:=PySem.F.sub_list_set;have hslf:=PySem.F.sub_list_frozenset;have hne:(Value.type "list" == Value.type "dict")=false:=by decide
    have hl1:(s.heap.push { cls:=.type "set",dict:=none,data:=.set #[] 0 (.fresh 0 0 (!E9 w)) }).IsList l items:=⟨_,hol',rfl,nl,rfl⟩
    unfold Builtin.«set.__init__» noKeywords Builtin.Frozenset.updateFrom;generalize hPI:pyIter=PI
    wp_walk
    subst hPI;refine wpAny_pyIter_list hl1 ?_;refine wpAny_bind (wpAny_runValue ?_);have hlS:l < s.heap.objs.size:=Heap.lt_size hol;have hh3:A.in1.in1.in1.handled=none:=by simp [hh]
    have hneI:l ≠ (s.heap.push { cls:=.type "set",dict:=none,data:=.set #[] 0 (.fresh 0 0 (!E9 w)) }).objs.size:=by
     rw [Heap.size_push];exact Nat.ne_of_lt (Nat.lt_succ_of_lt hlS)
    have hSf:s.heap.objs.size ∉ [(s.heap.push { cls:=.type "set",dict:=none,data:=.set #[] 0 (.fresh 0 0 (!E9 w)) }).objs.size,l]:=by
     rw [Heap.size_push];simp only [List.mem_cons,List.mem_singleton,List.not_mem_nil,or_false,not_or];exact ⟨Nat.ne_of_lt (Nat.lt_succ_self _),Nat.ne_of_gt hlS⟩
    have hlen:xs.length=items.size:=by have:=hi.length;rw [List.length_map] at this;simpa using this
    have hval:∀ (i:Nat) (v:Value),items[i]?=some v->∃ x t,xs[i]?=some x/\v = .str x t:=fun i v hv=>a1x hi i v (by rw [Array.getElem?_toList];exact hv)
    refine a4H ((Walks.list hh3 _ l hneI items).toS) s.heap.objs.size hSf hlen nd hb hval (items.size - 0) 0 _ (by omega) (Nat.zero_le _)
     ⟨⟨_,Heap.get?_push_size _ rfl,rfl,rfl⟩,(hl1.push _)⟩ ?hS0 ?hR
    case hS0=>exact ⟨_,#[],0,_,Heap.get?_push_of_some _ hS,⟨rfl,rfl,rfl⟩,rfl,(fun e he=>nomatch he),(fun k=>⟨(fun z=>by cases z),(fun ⟨e,he,_⟩=>nomatch he)⟩),(show 0 < 4096 by decide),rfl,rfl⟩
    case hR =>
     intro s' hm hS';obtain ⟨h',g',d',tk',os'⟩:=s';have eg:g'=s.gens:=hm.gens;have ed:d'=s.drawn:=hm.drawn;have eo:os'=s.os:=hm.os;subst eg;subst ed;subst eo;show wpAny _ _ _ _ _ _;refine wpAny_pure ?_;show wpAny _ _ (ret Value.none) _ _ _;refine wpAny_pure ⟨rfl,h',tk',rfl,hS',fun b o e=>?_⟩;have hb:=Heap.lt_size e;have hb1:b ≠ s.heap.objs.size:=Nat.ne_of_lt hb
     have hb2:b ≠ (s.heap.push { cls:=.type "set",dict:=none,data:=.set #[] 0 (.fresh 0 0 (!E9 w)) }).objs.size:=by
      rw [Heap.size_push];exact Nat.ne_of_lt (Nat.lt_succ_of_lt hb)
     exact hm.heap b o (by simp only [List.mem_cons,List.mem_singleton,List.not_mem_nil,or_false,not_or];exact ⟨hb1,hb2⟩) (Heap.get?_push_of_some _ (Heap.get?_push_of_some _ e))
   ·cases r₂ with
    |error e=>exact hr₂
    |ok fl₂ =>
     cases fl₂ with
     |ret r =>
      obtain ⟨rfl,h',tk,rfl,hS',hk'⟩:=hr₂
      repeat (any_goals (first | assumption | wp_step))
      exact h _ _ hS' hk'
     |_=>exact hr₂.elim
  |_=>exact hr.elim
end
end TXS
namespace L2
open PySem PySem.Spec PyProof.Rows TXS
section
variable {X:Cx}
def a0Q(P:Program)(w:World)(S:Addr)(xs:List Str):Heap->Prop:=fun h=>h.SetOf (n5 P w) S (has xs) xs.length
theorem a4i(hh:X.A.handled=none):CallR X (.type "set") (fun vs H Q=>∃ a xs,vs=[.ref a]/\SqL X.K H a (xs.map V.str)/\xs.Nodup/\xs.length < 1000/\∀ S,H S=none->Q (.ref S) (upd H S (.ext (a0Q X.prog X.w S xs)))):=by
 intro pins s σ H xs us Q I r h;obtain ⟨a,ts,rfl,hq,nd,hl,q⟩:=h;obtain ⟨u,rfl,rx⟩:=A8 r;cases rx;obtain ⟨its,rv,p,hz⟩:=I.list hq;refine U9 hh p.isList rv nd hl fun h' tk hS hk=>?_;obtain ⟨o,es,ep,t,ho,rest⟩:=hS;exact ⟨.ref s.heap.objs.size,_,I.laid (t':=tk) hk (Nat.le_refl _) (show ObjOk X.prog X.w _ h' _ (.ext (a0Q X.prog X.w s.heap.objs.size ts)) from ⟨⟨o,es,ep,t,ho,rest⟩,⟨o,ho⟩,fun _ _ ⟨o,es,ep,t,z,r⟩ k=>⟨o,es,ep,t,k _ z,r⟩⟩),rfl,q _ (I.hok.fresh (Nat.le_refl _))⟩
theorem a4t:CallR X (.builtin "len") (fun vs H Q=>∃ S xs,vs=[.ref S]/\H S=some (.ext (a0Q X.prog X.w S xs))/\xs.length < 1000/\Q (.int (xs.length:Nat)) H):=by
 intro pins s σ H xs us Q I r h;obtain ⟨S,ts,rfl,hs,hl,q⟩:=h;obtain ⟨u,rfl,rx⟩:=A8 r;cases rx;obtain ⟨⟨o,es,ep,t,ho,hex,hd,_,_,_,hf,hn⟩,_⟩:=I.hok S _ hs;refine call_len_set ho hex hd hf (by omega) ?_;rw [hn];exact ⟨.int _,H,I.tok _,⟨_,rfl⟩,q⟩
end
end L2
namespace DL
open PySem PySem.Spec L2
def a2Y(f:DA):DE:=fun δ h Q=>f δ h fun ds h1=>match ds with
 |[d]=>∃ xs:List Str,A2 h1 d=some (xs.map D.str)/\xs.Nodup/\xs.length < 1000/\Q (.int (xs.length:Nat)) h1
 |_=>False
section
variable {X:Cx} {k:Nat} {e:Expr} {p p2 pos pos2:Pos} {n:Nat} {f:DA}
theorem a4Y(hr:Room k X.A)(hg:Gl X "len")(hm:X.mg "len" = none)(hg2:Gl X "set")(hm2:X.mg "set" = none)(ha:SA X [e] n f)(he:starEach [e] X.env=(false,eval e X.env) :: starEach [] X.env:=by rfl)
  (he2:starEach [.Call (.Name "set" p2) [e] [] pos2] X.env=(false,eval (.Call (.Name "set" p2) [e] [] pos2) X.env) :: starEach [] X.env:=by rfl) (hpl:(backTo pos2 (starEach [] X.env)).any (·.1)=false:=by rfl) (hpl2:(backTo pos (starEach [] X.env)).any (·.1)=false:=by rfl) :
  SE X (.Call (.Name "len" p) [.Call (.Name "set" p2) [e] [] pos2] [] pos) (a2Y f) :=
 PE.imp (Y5 a4t hg hm PySem.boot_len (P7 (L1 (a4i hr.hd) hg2 hm2 PyProof.Rows.boot_set ha (by decide) (by decide) he hpl) a0R he2) (by decide) (by decide) he2 hpl2) fun σ H Q zz=>by
 obtain ⟨π,α,δ,h,Q',R,S,f,k⟩:=zz;refine ⟨π,α,δ,h,_,R,S,f,fun ds h1 α1 H1 vs f1 e1 R1 q1 l1=>?_⟩
 split at f1
 ·rename_i d;obtain ⟨v,rfl,rd⟩:=q1.inv1;obtain ⟨xs,w,nd,hl,f1⟩:=f1;obtain ⟨a,us,rfl,hq,rs⟩:=B2 R1 rd w;rw [G9 rs] at hq;refine ⟨a,xs,rfl,hq,nd,hl,fun Sa hS=>?_⟩;have e2:Ext α1 H1 α1 (upd H1 Sa (.ext (a0Q X.prog X.w Sa xs))):=Ext.new hS;exact ⟨Sa,xs,rfl,l9,hl,k _ h1 α1 _ _ f1 (e1.trans e2) (R1.new hS) (.int _)⟩
 ·exact f1.elim
end
end DL
namespace DL
open PySem PySem.Spec L2
def b7l(ws:List Str)(fe:DE):DE:=fun δ h Q=>fe δ h fun d h1=>match d with
 |.str x=>Q (.bl (ws.any fun y=>y == x)) h1
 |_=>False
section
variable {X:Cx} {e:Expr} {fe:DE} {pos:Pos}
theorem b5X{x:Str}{ws:List Str}{p:Pos}(hg:Gl X x)(hk:∃ a,X.mg x=some (.ref a)/\b0Q X.K a ws)(he:SE X e fe)(hm:behindInMarks .In (.Name x p)=false:=by rfl)(hd:(x == ("__debug__":Str))=false:=by decide):ST X (.Compare e [.In] [.Name x p] pos) (j9 (b7l ws fe)):=by
 obtain ⟨a,hmg,⟨o,its,n,lk,oc,od,hz,vl⟩⟩:=hk;refine PT.imp (a3W a0t he (a0x hg hmg (v:=.ref a) rfl hd) hm) fun σ H Q g=>?_;obtain ⟨π,α,δ,h,Q',R,S,f,k⟩:=X2 g;refine ⟨π,α,δ,h,_,R,S,f,fun d h1 α1 H1 v1 f1 e1 R1 q1=>?_⟩
 cases q1 with
 |str x =>
  refine ⟨a,ws.map V.str,rfl,.inr (.inr ⟨o,its,n,lk,oc,od,hz,vl⟩),rfl,?_,?_⟩
  ·rw [List.all_map];exact List.all_eq_true.mpr fun _ _=>rfl
  ·have e:inV (.str x) (ws.map V.str)=ws.any fun y=>y == x:=by
    unfold inV;rw [List.any_map];rfl
   rw [show (if false=true then !inV (V.str x) (ws.map V.str) else inV (V.str x) (ws.map V.str))=inV (V.str x) (ws.map V.str) from rfl,e];exact k _ h1 α1 H1 _ f1 e1 R1 (.bl _)
 |_=>exact f1.elim
end
end DL
namespace L2
open PySem PySem.Spec PyProof.Rows
theorem a2T:∀ {xs:List Str} {vs:List Value},Vals (xs.map V.str) vs->StrsAre vs xs
 |[],_,.nil=>.nil
 |x :: xs,_,.cons ⟨t,rfl⟩ h=>.cons x t (a2T h)
theorem W9(k:Str):∀ {vs:List Value} {xs:List Str},StrsAre vs xs->∀ (i:Nat) (h1:i < vs.length) (h2:i < xs.length),isStrOf k vs[i]=(xs[i] == k)
 |_,_,.cons x t h,0,_,_=>rfl
 |_,_,.cons x t h,i + 1,h1,h2=>W9 k h i (by simpa using h1) (by simpa using h2)
section
variable {X:Cx}
theorem a2v:MtR X "list.index" (fun x xs H Q=>∃ (a:Addr) (ns:List Str) (k:Str),x = .ref a/\xs=[.str k]/\SqL X.K H a (ns.map V.str)/\ns.length <= 100/\k ∈ ns/\Q (.int (ns.idxOf k:Nat)) H):=by
 intro pins s σ H x vs v us Q I rx rv h;obtain ⟨a,ns,k,rfl,rfl,hq,hl,hk,q⟩:=h;cases rx;obtain ⟨u,rfl,ru⟩:=A8 rv;obtain ⟨t',rfl⟩:=ru;obtain ⟨its,rv1,p,_⟩:=I.list hq;have ii:=a2T rv1;have il:its.length=ns.length:=by have:=rv1.length;rw [List.length_map] at this;exact this.symm
 have lt:ns.idxOf k < ns.length:=List.idxOf_lt_length_iff.mpr hk;obtain ⟨⟨cls,dd,data,sl⟩,ob,oc,m,od⟩:=p.isList
 simp only at oc od
 subst oc od;have lt':ns.idxOf k < its.length:=by rw [il];exact lt
 have e1:isStrOf k (its.toArray[ns.idxOf k]'(by rw [List.size_toArray];exact lt'))=true:=by
  show isStrOf k its[ns.idxOf k]=true;rw [W9 k ii _ lt' lt,List.getElem_idxOf lt];exact beq_self_eq_true k
 refine call_meets PySem.F.slot_list_index ⟨_,ob,rfl⟩ PySem.F.entry_list_index (PySem.F.args_list_index_2 _ _) (PySem.SeqAt.list_indexAt a its.toArray m dd sl _ (isStrOf k) (ns.idxOf k) (by rw [List.size_toArray];exact lt') (by omega) e1 fun i hi hlt=>?_) ⟨ob,fun y hy=>?_,⟨.int (ns.idxOf k:Nat),H,I.tok _,⟨_,rfl⟩,q⟩⟩
 ·have hi:i < its.length:=by rw [List.size_toArray] at hi;exact hi
  show isStrOf k its[i]=false;rw [W9 k ii i hi (by rw [<- il];exact hi)]
  exact beq_eq_false_iff_ne.mpr fun z=>by
   have:=List.not_of_lt_findIdx (p:=fun x=>x == k) (xs:=ns) (i:=i) hlt
   simp [z] at this
 ·exact (eq_isStrOf k _ ii y (List.mem_toArray.mp hy)).at _ _
end
end L2
namespace DL
open PySem PySem.Spec L2
def a2Z(fo:DE)(fs:DA):DE:=fun δ h Q=>fo δ h fun d h1=>(A2 h1 d).isSome=true/\fs δ h1 fun ds h2=>∃ (ns:List Str) (k:Str),ds=[.str k]/\A2 h2 d=some (ns.map D.str)/\ns.length <= 100/\k ∈ ns/\Q (.int (ns.idxOf k:Nat)) h2
theorem a4W{X:Cx}{e a:Expr}{fe:DE}{fa:DA}{n:Nat}{apos cpos:Pos}(ho:SE X e fe)(ha:SA X [a] n fa)(hbase:attributeBase e "index" X.env (eval e X.env)=eval e X.env:=by rfl)
  (hfew:((backTo cpos (starEach [a] X.env)).all (fun x=>!x.1) && (backToKw cpos (keywordEach [] X.env)).all (fun x=>x.1.isSome)
   && decide ([a].length + ([]:List Keyword).length + (if ([]:List Keyword).isEmpty then 0 else 1) < 30))=true:=by rfl)
  (hline:(apos.endLine == cpos.line)=true:=by rfl) (hs:starEach [a] X.env=(false,eval a X.env) :: starEach [] X.env:=by rfl) (hplain:(backTo cpos (starEach [] X.env)).any (·.1)=false:=by rfl) :
  SE X (.Call (.Attribute e "index" apos) [a] [] cpos) (a2Z fe fa) :=
 PE.imp (X3 PySem.F.plainAttrs_list PySem.F.slot_list_index PySem.F.type_list_index a2v ho ha hbase hfew hline hs hplain) fun σ H Q zz=>by
  obtain ⟨π,α,δ,h,Q',R,S,f,k⟩:=zz;refine ⟨π,α,δ,h,_,R,S,f,fun d h1 α1 H1 v1 f1 e1 R1 q1=>?_⟩;obtain ⟨hi,f1⟩:=f1;obtain ⟨xs,hx⟩:=Option.isSome_iff_exists.mp hi;obtain ⟨p,us,rfl,sq,_⟩:=B2 R1 q1 hx;refine ⟨.inl ⟨rfl,us,sq⟩,π,α1,δ,h1,_,R1,S.mono e1,f1,fun ds h2 α2 H2 vs f2 e2 R2 q2 l2=>?_⟩;obtain ⟨ns,i,rfl,hl,hn,hk,q⟩:=f2;obtain ⟨v,rfl,q3⟩:=q2.inv1;cases q3;obtain ⟨p2,us2,e3,sq2,r2⟩:=B2 R2 (q1.mono e2) hl;cases e3;rw [G9 r2] at sq2;exact ⟨p,ns,i,rfl,rfl,sq2,hn,hk,k _ h2 α2 H2 _ q (e1.trans e2) R2 (.int _)⟩
end DL
namespace CM
open PySem L2 DL
def jn(c:Nat):List (List Nat)->List Nat
 |[]=>[]
 |[x]=>x
 |x :: y :: r=>x ++ c :: jn c (y :: r)
def cl(x:Str):List Nat:=x.cps.toList
theorem a6E{x y:Str}(h:cl x=cl y):x=y:=by
 cases x;cases y;unfold cl at h
 congr 1
 exact Array.toList_inj.mp h
theorem B7:∀ {xs ys:List Str},xs.map cl=ys.map cl->xs=ys
 |[],[],_=>rfl
 |[],_ :: _,h=>by cases h
 |_ :: _,[],h=>by cases h
 |x :: xs,y :: ys,h=>by
  rw [List.map_cons,List.map_cons] at h;obtain ⟨h1,h2⟩:=List.cons.inj h;rw [a6E h1,B7 h2]
theorem E7(x y:Str):cl (x ++ y)=cl x ++ cl y:=by
 show (x.cps ++ y.cps).toList=_;rw [Array.toList_append];rfl
theorem A6(x:Str):(cl x).length=x.length:=by unfold cl;rw [Array.length_toList];rfl
theorem D9(c:Nat):∀ xs:List Str,cl (Str.join ⟨#[c]⟩ xs)=jn c (xs.map cl)
 |[]=>rfl
 |[x]=>rfl
 |x :: y :: r=>by
  show cl (x ++ ⟨#[c]⟩ ++ Str.join ⟨#[c]⟩ (y :: r))=_;rw [E7,E7,D9 c (y :: r),List.append_assoc];rfl
theorem a3E{c:Nat}:∀ {x y r s:List Nat},c ∉ x->c ∉ y->x ++ c :: r=y ++ c :: s->x=y/\r=s
 |[],[],r,s,_,_,h=>by cases h;exact ⟨rfl,rfl⟩
 |[],b :: y,r,s,_,hy,h=>by
  have h:c :: r=b :: (y ++ c :: s):=h;obtain ⟨rfl,_⟩:=List.cons.inj h;exact absurd List.mem_cons_self hy
 |a :: x,[],r,s,hx,_,h=>by
  have h:a :: (x ++ c :: r)=c :: s:=h;obtain ⟨rfl,_⟩:=List.cons.inj h;exact absurd List.mem_cons_self hx
 |a :: x,b :: y,r,s,hx,hy,h=>by
  have h:a :: (x ++ c :: r)=b :: (y ++ c :: s):=h;obtain ⟨rfl,h2⟩:=List.cons.inj h;obtain ⟨rfl,rfl⟩:=a3E (fun z=>hx (List.mem_cons_of_mem _ z)) (fun z=>hy (List.mem_cons_of_mem _ z)) h2;exact ⟨rfl,rfl⟩
theorem a1f{c:Nat}{x y s:List Nat}(hx:c ∉ x):x ≠ y ++ c :: s:=fun h=>hx (by rw [h];exact List.mem_append_right _ List.mem_cons_self)
theorem a7s{c:Nat}:∀ {xs ys:List (List Nat)},xs ≠ []->ys ≠ []->(∀ x ∈ xs,c ∉ x)->(∀ y ∈ ys,c ∉ y)->jn c xs=jn c ys->xs=ys
 |[],_,h,_,_,_,_=>absurd rfl h
 |_,[],_,h,_,_,_=>absurd rfl h
 |[x],[y],_,_,_,_,h=>by have h:x=y:=h;rw [h]
 |[x],y :: z :: r,_,_,hx,_,h=>absurd h (a1f (hx x List.mem_cons_self))
 |x :: z :: r,[y],_,_,_,hy,h=>absurd h.symm (a1f (hy y List.mem_cons_self))
 |x :: z :: r,y :: w :: s,_,_,hx,hy,h=>by
  obtain ⟨h1,h2⟩:=a3E (hx x List.mem_cons_self) (hy y List.mem_cons_self) h;rw [h1,a7s (by simp) (by simp) (fun a ha=>hx a (List.mem_cons_of_mem _ ha)) (fun a ha=>hy a (List.mem_cons_of_mem _ ha)) h2]
theorem a5U(x y:Str):Txt.split x y ≠ []:=by
 unfold Txt.split;split
 ·simp
 ·split
  ·simp
  ·rw [StrLaws.partsBetween_eq];obtain ⟨p,r,e⟩:=StrLaws.partsFrom_ne x y.length 0 (Builtin.Str.occurrences x y 0 x.length (x.length + 1));rw [e];simp
theorem a1Y{c:Nat}{xs:List Str}(h:xs ≠ [])(hf:∀ x ∈ xs,c ∉ cl x):Txt.split (Str.join ⟨#[c]⟩ xs) ⟨#[c]⟩=xs:=by
 have e:=StrLaws.join_split (Str.join ⟨#[c]⟩ xs) ⟨#[c]⟩;have e2:=congrArg cl e;rw [D9,D9] at e2;refine B7 (a7s (c:=c) ?_ ?_ ?_ ?_ e2)
 ·intro z;exact a5U _ _ (List.map_eq_nil_iff.mp z)
 ·intro z;exact h (List.map_eq_nil_iff.mp z)
 ·intro x hx;obtain ⟨y,hy,rfl⟩:=List.mem_map.mp hx;exact StrLaws.split_free _ c y hy
 ·intro x hx;obtain ⟨y,hy,rfl⟩:=List.mem_map.mp hx;exact hf y hy
def wds:List Nat->List (List Nat)
 |[]=>[]
 |c :: r=>if c=32 then wds r else match r with
  |[]=>[[c]]
  |d :: r'=>if d=32 then [c] :: wds (d :: r') else match wds (d :: r') with
   |[]=>[[c]]
   |w :: ws=>(c :: w) :: ws
theorem A7(r:List Nat):wds (32 :: r)=wds r:=by rw [wds.eq_def];exact if_pos rfl
theorem U8:∀ {w:List Nat},w ≠ []->32 ∉ w->wds w=[w]
 |[],h,_=>absurd rfl h
 |[c],_,h=>by
  have hc:c ≠ 32:=fun z=>h (by rw [z];exact List.mem_cons_self);simp only [wds];rw [if_neg hc]
 |c :: d :: w,_,h=>by
  have hc:c ≠ 32:=fun z=>h (by rw [z];exact List.mem_cons_self);have hd:d ≠ 32:=fun z=>h (by rw [z];exact List.mem_cons_of_mem _ List.mem_cons_self)
  have:=U8 (w:=d :: w) (by simp) (fun z=>h (List.mem_cons_of_mem _ z))
  rw [wds];rw [if_neg hc,if_neg hd,this]
theorem a3N:∀ {w:List Nat} {r:List Nat},w ≠ []->32 ∉ w->wds (w ++ 32 :: r)=w :: wds r
 |[],r,h,_=>absurd rfl h
 |[c],r,_,h=>by
  have hc:c ≠ 32:=fun z=>h (by rw [z];exact List.mem_cons_self);show wds (c :: 32 :: r)=_;rw [wds];rw [if_neg hc,if_pos rfl,A7]
 |c :: d :: w,r,_,h=>by
  have hc:c ≠ 32:=fun z=>h (by rw [z];exact List.mem_cons_self);have hd:d ≠ 32:=fun z=>h (by rw [z];exact List.mem_cons_of_mem _ List.mem_cons_self)
  have:=a3N (w:=d :: w) (r:=r) (by simp) (fun z=>h (List.mem_cons_of_mem _ z))
  show wds (c :: d :: (w ++ 32 :: r))=_;rw [wds];rw [if_neg hc,if_neg hd];have this:wds (d :: (w ++ 32 :: r))=(d :: w) :: wds r:=this;rw [this]
theorem a2f:∀ {ps:List (List Nat)},(∀ p ∈ ps,32 ∉ p)->wds (jn 32 ps)=ps.filter fun p=>p ≠ []
 |[],_=>rfl
 |[p],h=>by
  by_cases z:p=[]
  ·subst z;rfl
  ·show wds p=_;rw [U8 z (h p List.mem_cons_self),List.filter_cons_of_pos (by simpa using z)];rfl
 |p :: q :: r,h=>by
  have ih:=a2f (ps:=q :: r) (fun a ha=>h a (List.mem_cons_of_mem _ ha))
  by_cases z:p=[]
  ·subst z;show wds (32 :: jn 32 (q :: r))=_;rw [A7,ih];rfl
  ·show wds (p ++ 32 :: jn 32 (q :: r))=_;rw [a3N z (h p List.mem_cons_self),ih,List.filter_cons_of_pos (a:=p) (by simpa using z)]
theorem a1X(x:Str):((Txt.split x ⟨#[32]⟩).filter fun p=>decide (cl p ≠ [])).map cl=wds (cl x):=by
 have e:=congrArg cl (StrLaws.join_split x ⟨#[32]⟩);rw [D9] at e
 rw [<- e,a2f (fun p hp=>by
  obtain ⟨y,hy,rfl⟩:=List.mem_map.mp hp;exact StrLaws.split_free _ 32 y hy),List.filter_map]
 rfl
def a0g(s:List Nat):Prop:=s=[]\/∃ t,s=t ++ [32]
theorem K4:∀ (s:List Nat),wds (s ++ [32])=wds s
 |[]=>rfl
 |[c]=>by
  by_cases hc:c=32
  ·subst hc;rfl
  ·show wds [c,32]=wds [c];simp only [wds];rw [if_neg hc,if_neg hc];simp
 |c :: d :: r=>by
  have ih:=K4 (d :: r)
  by_cases hc:c=32
  ·subst hc;show wds (32 :: ((d :: r) ++ [32]))=_;rw [A7,A7];exact ih
  ·show wds (c :: d :: (r ++ [32]))=wds (c :: d :: r);have ih:wds (d :: (r ++ [32]))=wds (d :: r):=ih;rw [wds,wds];rw [ih]
theorem G5:∀ (k:Nat) (s:List Nat),wds (s ++ List.replicate k 32)=wds s
 |0,s=>by simp
 |k + 1,s=>by
  rw [List.replicate_succ,show s ++ 32 :: List.replicate k 32=(s ++ [32]) ++ List.replicate k 32 by simp,G5 k,K4]
theorem b6a{d:Nat}(hd:d ≠ 32):∀ r,wds (d :: r) ≠ []
 |[]=>by simp only [wds];rw [if_neg hd];simp
 |e :: r=>by
  rw [wds,if_neg hd]
  by_cases he:e=32
  ·rw [if_pos he];simp
  ·rw [if_neg he]
   cases wds (e :: r) <;> simp
theorem a1m:∀ {s w:List Nat},a0g s->w ≠ []->32 ∉ w->wds (s ++ w)=wds s ++ [w]
 |[],w,_,h1,h2=>U8 h1 h2
 |[c],w,h,h1,h2=>by
  rcases h with h | ⟨t,h⟩
  ·cases h
  ·have hc:c=32:=by
    cases t with
    |nil=>exact (List.cons.inj h).1
    |cons a t=>have:=congrArg List.length h;simp at this
   subst hc;show wds (32 :: w)=wds [32] ++ [w];rw [A7,U8 h1 h2];rfl
 |c :: d :: r,w,h,h1,h2=>by
  have h':a0g (d :: r):=by
   rcases h with h | ⟨t,h⟩
   ·cases h
   ·cases t with
    |nil=>have:=congrArg List.length h;simp at this
    |cons a t=>exact .inr ⟨t,(List.cons.inj h).2⟩
  have ih:=a1m (w:=w) h' h1 h2
  by_cases hc:c=32
  ·subst hc;show wds (32 :: ((d :: r) ++ w))=_;rw [A7,A7];exact ih
  ·have ih:wds (d :: (r ++ w))=wds (d :: r) ++ [w]:=ih;show wds (c :: d :: (r ++ w))=wds (c :: d :: r) ++ [w];rw [wds,wds];rw [if_neg hc,if_neg hc,ih]
   by_cases hd:d=32
   ·rw [if_pos hd,if_pos hd];rfl
   ·rw [if_neg hd,if_neg hd]
    cases q:wds (d :: r) with
    |nil =>
     exact absurd q (b6a hd r)
    |cons a l=>rfl
theorem a1A{s:List Nat}{k:Nat}(h:1 <= k):a0g (s ++ List.replicate k 32):=by
 obtain ⟨k,rfl⟩:∃ j,k=j + 1:=⟨k - 1,by omega⟩
 exact .inr ⟨s ++ List.replicate k 32,by rw [List.replicate_succ'];simp⟩
theorem a8f(k:Nat):a0g (List.replicate k 32):=by
 cases k with
 |zero=>exact .inl rfl
 |succ k=>exact .inr ⟨List.replicate k 32,by rw [List.replicate_succ']⟩
theorem a3U(k:Nat):wds (List.replicate k 32)=[]:=by
 have:=G5 k []
 rw [List.nil_append] at this;exact this
theorem a1b:∀ (s:List Nat),wds (s.dropWhile fun c=>decide (c=32))=wds s
 |[]=>rfl
 |c :: r=>by
  by_cases hc:c=32
  ·subst hc;rw [List.dropWhile_cons_of_pos (by simp),A7];exact a1b r
  ·rw [List.dropWhile_cons_of_neg (by simpa using hc)]
end CM
namespace CM
open PySem L2 DL
theorem a0H{p:Nat->Bool}:∀ (s:List Nat),s.drop (s.takeWhile p).length=s.dropWhile p
 |[]=>rfl
 |c :: r=>by
  by_cases h:p c=true
  ·rw [List.takeWhile_cons_of_pos h,List.dropWhile_cons_of_pos h,List.length_cons,List.drop_succ_cons];exact a0H r
  ·rw [List.takeWhile_cons_of_neg h,List.dropWhile_cons_of_neg h];rfl
theorem a6n{p:Nat->Bool}:∀ (s:List Nat),∀ c ∈ s.takeWhile p,p c=true
 |[],c,h=>nomatch h
 |a :: r,c,h=>by
  by_cases hp:p a=true
  ·rw [List.takeWhile_cons_of_pos hp] at h
   rcases List.mem_cons.mp h with rfl | h
   ·exact hp
   ·exact a6n r c h
  ·rw [List.takeWhile_cons_of_neg hp] at h;exact nomatch h
theorem a7T:∀ {s:List Nat},(∀ c ∈ s,c=32)->s=List.replicate s.length 32
 |[],_=>rfl
 |c :: r,h=>by
  rw [List.length_cons,List.replicate_succ,h c List.mem_cons_self,<- a7T (fun a ha=>h a (List.mem_cons_of_mem _ ha))]
theorem a4Q{s:List Nat}:wds (s.take (s.length - (s.reverse.takeWhile fun c=>decide (c=32)).length))=wds s:=by
 have h:=List.takeWhile_append_dropWhile (p:=fun c=>decide (c=32)) (l:=s.reverse);have h2:=congrArg List.reverse h;rw [List.reverse_append,List.reverse_reverse] at h2
 have hl:(s.reverse.dropWhile fun c=>decide (c=32)).reverse.length=s.length - (s.reverse.takeWhile fun c=>decide (c=32)).length:=by
  have:=congrArg List.length h
  rw [List.length_append,List.length_reverse] at this;rw [List.length_reverse];omega
 have h3:=a7T (s:=(s.reverse.takeWhile fun c=>decide (c=32)).reverse) (fun c hc=>of_decide_eq_true (a6n _ c (List.mem_reverse.mp hc)));rw [<- hl];generalize (s.reverse.dropWhile fun c=>decide (c=32)).reverse=a at h2;generalize (s.reverse.takeWhile fun c=>decide (c=32)).reverse=b at h2 h3;rw [<- h2,List.take_append_of_le_length (Nat.le_refl _),List.take_length,h3,G5]
open Builtin.Str in
theorem a1e{x:Str}(h:∀ c ∈ cl x,Unicode.isSpace c=decide (c=32)):wds (cl (Txt.strip x))=wds (cl x):=by
 have tw:∀ {s:List Nat},(∀ c ∈ s,c ∈ cl x)->s.takeWhile Unicode.isSpace=s.takeWhile fun c=>decide (c=32):=fun {s} hs=>by
  induction s with
  |nil=>rfl
  |cons a r ih =>
   rw [List.takeWhile_cons,List.takeWhile_cons,h a (hs a List.mem_cons_self),ih fun c hc=>hs c (List.mem_cons_of_mem _ hc)]
 unfold Txt.strip Txt.stripBy;split
 ·rfl
 ·unfold stripped strSub stripHi stripLo;rw [if_pos rfl,if_pos rfl];show wds ((x.cps.extract _ _).toList)=_;rw [Array.toList_extract];show wds (List.extract (cl x) _ _)=_;rw [show x.cps.toList=cl x from rfl,tw (fun c hc=>hc),tw (fun c hc=>List.mem_of_mem_drop (List.mem_reverse.mp hc))];rw [a0H,<- A6];rw [List.extract_eq_take_drop,a0H]
  have e:(cl x).length - (((cl x).dropWhile fun c=>decide (c=32)).reverse.takeWhile fun c=>decide (c=32)).length - ((cl x).takeWhile fun c=>decide (c=32)).length=((cl x).dropWhile fun c=>decide (c=32)).length - (((cl x).dropWhile fun c=>decide (c=32)).reverse.takeWhile fun c=>decide (c=32)).length:=by
   rw [<- a0H,List.length_drop];omega
  rw [e,a4Q,a1b]
open PySem.NumText in
theorem b8H:∀ n:Nat,∃ cs:List Nat,AllDigits cs/\digitsVal cs=n/\(n=0->cs=[48])/\(0 < n->∃ c r,cs=c :: r/\49 <= c)/\∀ k,n < 10 ^ (k + 1)->cs.length <= k + 1:=by
 intro n
 induction n using Nat.strongRecOn with
 |_ n ih =>
  by_cases z:n < 10
  ·refine ⟨[48 + n],fun d hd=>by rw [List.mem_singleton.mp hd];omega,by show 0 * 10 + (48 + n - 48)=n;omega,fun e=>by rw [e],fun e=>⟨48 + n,[],rfl,by omega⟩,fun k _=>by simp⟩
  ·obtain ⟨cs,h1,h2,h3,h4,h5⟩:=ih (n / 10) (by omega);refine ⟨cs ++ [48 + n % 10],fun d hd=>?_,?_,fun e=>by omega,fun _=>?_,fun k hk=>?_⟩
   ·rcases List.mem_append.mp hd with q | q
    ·exact h1 d q
    ·rw [List.mem_singleton.mp q];omega
   ·rw [digitsVal_snoc,h2];omega
   ·obtain ⟨c,r,e,hc⟩:=h4 (by omega);exact ⟨c,r ++ [48 + n % 10],by rw [e];rfl,hc⟩
   ·cases k with
    |zero=>omega
    |succ k =>
     have:=h5 k (by rw [Nat.pow_succ] at hk;omega)
     rw [List.length_append,List.length_singleton];omega
def tx(n:Nat):Str:=Str.ofString (toString (n:Int))
open PySem.NumText in
theorem b2J(n:Nat):∃ cs:List Nat,cl (tx n)=cs/\AllDigits cs/\digitsVal cs=n/\(n=0->cs=[48])/\(0 < n->∃ c r,cs=c :: r/\49 <= c)/\∀ k,n < 10 ^ (k + 1)->cs.length <= k + 1:=by
 obtain ⟨cs,h1,h2,h3,h4,h5⟩:=b8H n;refine ⟨cs,?_,h1,h2,h3,h4,h5⟩
 have ne:cs ≠ []:=by
  rcases Nat.eq_zero_or_pos n with z | z
  ·rw [h3 z];simp
  ·obtain ⟨c,r,e,_⟩:=h4 z;rw [e];simp
 have hd:Nat.toDigits 10 n=cs.map Char.ofNat:=by
  rw [<- h2];refine toDigits_digitsVal (cs.length - 1) cs (by have:=List.length_pos_iff.mpr ne;omega) h1 ?_
  rcases Nat.eq_zero_or_pos n with z | z
  ·exact .inl (by rw [h3 z];rfl)
  ·exact .inr (h4 z)
 have e1:(toString (n:Int)).toList=Nat.toDigits 10 n:=by
  rw [Int.toString_eq_repr,Int.repr_eq_if,if_pos (by omega),Int.toNat_natCast,Nat.toList_repr]
 unfold cl tx;rw [Str.ofString_eq_toList,e1,hd,List.map_map];show cs.map (Char.toNat ∘ Char.ofNat)=cs;have small:∀ c < 58,(Char.ofNat c).toNat=c:=by decide
 conv=>rhs;rw [<- List.map_id cs]
 exact List.map_congr_left fun c hc=>small c (by have:=h1 c hc;omega)
theorem b5E{c:Nat}(h:48 <= c/\c <= 57):isF c=true:=by unfold isF;rw [decide_eq_true h.1,decide_eq_true h.2];rfl
theorem J7{n:Nat}(h:n < 10 ^ 18):a2u (tx n)=some n:=by
 obtain ⟨cs,e,h1,h2,h3,h4,h5⟩:=b2J n;have l18:=h5 17 h;have e':(tx n).cps.toList=cs:=e;have ll:(tx n).length=cs.length:=by rw [<- A6,e]
 have ne:1 <= cs.length:=by
  rcases Nat.eq_zero_or_pos n with z | z
  ·rw [h3 z];exact Nat.le_refl 1
  ·obtain ⟨c,r,q,_⟩:=h4 z;rw [q];simp
 unfold a2u;rw [ll,e',if_pos ⟨⟨ne,by omega⟩,List.all_eq_true.mpr fun c hc=>b5E (h1 c hc)⟩,if_neg,h2]
 rintro ⟨q1,q2⟩
 rcases Nat.eq_zero_or_pos n with z | z
 ·rw [h3 z] at q2;simp at q2
 ·obtain ⟨c,r,q,hc⟩:=h4 z;rw [q] at q1
  have:c=48:=by simpa using q1
  omega
theorem B4{n:Nat}(h:n < 10 ^ 18):TOk (tx n) 18/\isN (tx n)=false/\32 ∉ cl (tx n)/\10 ∉ cl (tx n)/\cl (tx n) ≠ []/\∀ c ∈ cl (tx n),48 <= c/\c <= 57:=by
 obtain ⟨cs,e,h1,h2,h3,h4,h5⟩:=b2J n;have l18:=h5 17 h;have e':(tx n).cps.toList=cs:=e;have ll:(tx n).length=cs.length:=by rw [<- A6,e]
 have ne:cs ≠ []:=by
  rcases Nat.eq_zero_or_pos n with z | z
  ·rw [h3 z];simp
  ·obtain ⟨c,r,q,_⟩:=h4 z;rw [q];simp
 refine ⟨⟨(E1 _).mpr fun c hc=>by rw [e'] at hc;have:=h1 c hc;omega,by rw [ll];omega⟩,?_,?_,?_,?_,?_⟩
 ·unfold isN;rw [e']
  cases cs with
  |nil=>exact absurd rfl ne
  |cons c r =>
   have hc:=h1 c List.mem_cons_self
   have:isL c=false:=by unfold isL;rw [decide_eq_false (show ¬ 97 <= c by omega)];rfl
   rw [List.all_cons,this,Bool.false_and,Bool.and_false,Bool.and_false]
 ·rw [e];intro q;have:=h1 32 q;omega
 ·rw [e];intro q;have:=h1 10 q;omega
 ·rw [e];exact ne
 ·rw [e];exact h1
end CM
namespace CM
open PySem L2 DL
inductive Rw where
 |num (x:Nat) (k:Int)
 |copy (x y:Nat)
 |does (x:Nat) (o:Str) (y z:Nat)
 |dye (x:Nat)
 |wash (x:Nat)
 |ifq (x q:Nat)
 |to (q:Nat)
 |ret (x:Nat)
 |call (x g:Nat) (ys:List Nat)
def roD:Rw->D
 |.num x k=>.tup [.str "number",nD x,.int k]
 |.copy x y=>.tup [.str "copy",nD x,nD y]
 |.does x o y z=>.tup [.str "does",nD x,.str o,nD y,nD z]
 |.dye x=>.tup [.str "dye",nD x]
 |.wash x=>.tup [.str "wash",nD x]
 |.ifq x q=>.tup [.str "if",nD x,nD q]
 |.to q=>.tup [.str "to",nD q]
 |.ret x=>.tup [.str "return",nD x]
 |.call x g ys=>.tup [.str "call",nD x,nD g,.tup (ys.map nD)]
structure Fu where
 name:Str
 given:Nat
 vars:List Str
 rows:List Rw
def fuD(F:Fu):D:=.tup [.str F.name,nD F.given,.tup (F.vars.map .str),.tup (F.rows.map roD)]
def d8:Rw->List Nat
 |.to _=>[]
 |.copy x y=>[x,y]
 |.does x _ y z=>[x,y,z]
 |.call x _ ys=>x :: ys
 |.num x _=>[x]
 |.dye x=>[x]
 |.wash x=>[x]
 |.ifq x _=>[x]
 |.ret x=>[x]
def vn(vs:List Str)(i:Nat):Str:=vs.getD i ""
def l7(ws vs:List Str):Rw->List Str
 |.to q=> ["to",tx (q + 1)]
 |.ifq x q=> ["if",vn vs x,"to",tx (q + 1)]
 |.num x k=>[vn vs x,"=",tx k.toNat]
 |.copy x y=>[vn vs x,"=",vn vs y]
 |.does x o y z=>[vn vs x,"=",vn vs y,o,vn vs z]
 |.call x g ys=>vn vs x :: "=" :: "call" :: vn ws g :: ys.map (vn vs)
 |.dye x=> ["dye",vn vs x]
 |.wash x=> ["wash",vn vs x]
 |.ret x=> ["return",vn vs x]
def y3:Rw->Str
 |.to _=> "to"
 |.ifq _ _=> "if"
 |.num _ _=> "number"
 |.copy _ _=> "copy"
 |.does _ _ _ _=> "does"
 |.call _ _ _=> "call"
 |.dye _=> "dye"
 |.wash _=> "wash"
 |.ret _=> "return"
def wtR:Rw->Nat
 |.ifq _ _=>2
 |_=>1
def W0:List Str:= ["+","-","*"]
def L6(ws vs:List Str)(gv:List Nat)(many:Nat)(r:Rw):Prop:=(∀ x ∈ d8 r,x < vs.length)/\(d8 r).length <= 10/\match r with
 |.ifq _ q=>q < many
 |.to q=>q < many
 |.num _ k=>0 <= k/\k < 10 ^ 18
 |.does _ o _ _=>o ∈ W0
 |.call _ g ys=>g < ws.length/\gv[g]?=some ys.length
 |_=>True
def NG(vs:List Str):Prop:=∀ v ∈ vs,isN v=true
theorem u0{v:Str}(h:isN v=true):TOk v 8/\cl v ≠ []/\(∀ c ∈ cl v,97 <= c/\c <= 122)/\(∀ y ∈ kept,(y == v)=false)/\a2u v=none:=by
 unfold isN at h;rw [Bool.and_eq_true,Bool.and_eq_true,Bool.and_eq_true,decide_eq_true_iff,decide_eq_true_iff,List.all_eq_true] at h;obtain ⟨⟨h1,h2⟩,h3,h4⟩:=h
 have h5:∀ c ∈ cl v,97 <= c/\c <= 122:=fun c hc=>by
  have:=h4 c hc
  unfold isL at this;rw [Bool.and_eq_true,decide_eq_true_iff,decide_eq_true_iff] at this;exact this
 have ne:cl v ≠ []:=fun z=>by have:=A6 v;rw [z] at this;simp at this;omega
 refine ⟨⟨(E1 _).mpr fun c hc=>by have:=h5 c hc;omega,h2⟩,ne,h5,fun y hy=>?_,?_⟩
 ·rw [Bool.not_eq_true',List.any_eq_false] at h3;exact Bool.eq_false_iff.mpr (h3 y hy)
 ·unfold a2u;rw [if_neg]
  rintro ⟨_,q⟩
  rw [List.all_eq_true] at q
  cases e:cl v with
  |nil=>exact ne e
  |cons c r =>
   have hc:c ∈ cl v:=by rw [e];exact List.mem_cons_self
   have:=q c hc
   unfold isF at this;rw [Bool.and_eq_true,decide_eq_true_iff,decide_eq_true_iff] at this
   have:=h5 c hc
   omega
theorem F1{vs:List Str}{x:Nat}(h:x < vs.length):vn vs x ∈ vs:=by
 unfold vn;rw [List.getD_eq_getElem?_getD,List.getElem?_eq_getElem h];exact List.getElem_mem h
theorem V7{x y:Str}(h:cl x ≠ cl y):(x == y)=false:=beq_eq_false_iff_ne.mpr fun e=>h (by rw [e])
theorem b1z{v:Str}(h:isN v=true):(v == Str.ofString "=")=false:=by
 obtain ⟨_,ne,h5,_⟩:=u0 h;refine V7 fun e=>?_
 have:(61:Nat) ∈ cl v:=by rw [e];decide +kernel
 have:=h5 61 this
 omega
theorem a4w{v y:Str}(h:isN v=true)(hy:y ∈ kept):(v == y)=false:=by
 have:=(u0 h).2.2.2.1 y hy
 rw [beq_eq_false_iff_ne] at this ⊢;exact fun e=>this e.symm
theorem b8x{n:Nat}(h:n < 10 ^ 18){y:Str}(hy:∀ c ∈ cl y,¬ (48 <= c/\c <= 57)):(tx n == y)=false:=by
 obtain ⟨_,_,_,_,ne,hd⟩:=B4 h;refine V7 fun e=>?_
 cases q:cl (tx n) with
 |nil=>exact ne q
 |cons c r =>
  have hc:c ∈ cl (tx n):=by rw [q];exact List.mem_cons_self
  exact hy c (by rw [<- e];exact hc) (hd c hc)
theorem b8n:∀ c ∈ cl (Str.ofString "="),¬ (48 <= c/\c <= 57):=by decide +kernel
end CM
namespace CM
open PySem L2 DL
def lw(l:List Nat):Str:=⟨(l.map fun i=>97 + i).toArray⟩
abbrev abc:Str:=Str.ofString "abcdefghijklmnopqrstuvwxyz"
theorem a2P:abc.cps.toList=(List.range 26).map fun i=>97 + i:=by kernel_rfl
theorem b0p:abc.length=26:=by
 show abc.cps.size=26;rw [<- Array.length_toList,a2P];rfl
theorem b5q:Str.ofString "" = lw []:=by kernel_rfl
theorem G4(l:List Nat):(lw l).length=l.length:=by
 show (lw l).cps.size=_;unfold lw;simp
theorem a7u(a b:List Nat):lw a ++ lw b=lw (a ++ b):=by
 show (⟨(lw a).cps ++ (lw b).cps⟩:Str)=_;unfold lw;simp
theorem b4r{a b:List Nat}(h:lw a=lw b):a=b:=by
 unfold lw at h;have h:=congrArg (fun s:Str=>s.cps.toList) h;have h:a.map (fun i=>97 + i)=b.map fun i=>97 + i:=by simpa using h
 exact List.map_inj_right (fun x y q=>by omega) |>.mp h
theorem a5Q{i:Nat}(h:i < 26):O7 abc (i:Int)=some (.str (lw [i])):=by
 unfold O7;rw [if_pos (by rw [b0p];decide),a2P]
 have:atI ((List.range 26).map fun i=>97 + i) (i:Int)=some (97 + i):=by
  unfold atI;rw [List.length_map,List.length_range,a3f h]
  simp [h]
 rw [this];rfl
theorem b8t(l:List Nat)(c:Nat)(hl:l.length <= 100):O7 (lw (l ++ [c])) ((l.length:Nat):Int)=some (.str (lw [c])):=by
 unfold O7;rw [if_pos (by rw [G4];simp;omega)]
 have:atI (lw (l ++ [c])).cps.toList ((l.length:Nat):Int)=some (97 + c):=by
  unfold atI lw;rw [show ((l ++ [c]).map fun i=>97 + i).toArray.toList=(l ++ [c]).map fun i=>97 + i from rfl,List.length_map,List.length_append,List.length_singleton,a3f (Nat.lt_succ_self _)]
  simp
 rw [this];rfl
theorem b4t:∀ d < 26,Builtin.Str.occurrences abc ⟨#[97 + d]⟩ 0 abc.length 1=[d]:=by decide +kernel
theorem b6D{α:Type} [DecidableEq α]:∀ (T:List α) (B:Nat) (f:Nat->α),T.length < B->(∀ i j,i < B->j < B->f i=f j->i=j)->∃ i,i < B/\f i ∉ T
 |[],B,f,h,_=>⟨0,by simpa using h,by simp⟩
 |a :: T,B,f,h,inj=>by
  by_cases z:∃ k,k < B/\f k=a
  ·obtain ⟨k,hk,ek⟩:=z;have h:T.length + 1 < B:=h
   obtain ⟨i,hi,ni⟩:=b6D T (B - 1) (fun i=>if i < k then f i else f (i + 1)) (by omega) (fun i j hi hj e=>by
    have e:(if i < k then f i else f (i + 1))=if j < k then f j else f (j + 1):=e
    by_cases a1:i < k <;> by_cases a2:j < k
    ·rw [if_pos a1,if_pos a2] at e;exact inj i j (by omega) (by omega) e
    ·rw [if_pos a1,if_neg a2] at e;have:=inj i (j + 1) (by omega) (by omega) e;omega
    ·rw [if_neg a1,if_pos a2] at e;have:=inj (i + 1) j (by omega) (by omega) e;omega
    ·rw [if_neg a1,if_neg a2] at e;have:=inj (i + 1) (j + 1) (by omega) (by omega) e;omega)
   have ni:(if i < k then f i else f (i + 1)) ∉ T:=ni
   by_cases a1:i < k
   ·rw [if_pos a1] at ni;refine ⟨i,by omega,fun q=>?_⟩
    rcases List.mem_cons.mp q with q | q
    ·have:=inj i k (by omega) hk (q.trans ek.symm);omega
    ·exact ni q
   ·rw [if_neg a1] at ni;refine ⟨i + 1,by omega,fun q=>?_⟩
    rcases List.mem_cons.mp q with q | q
    ·have:=inj (i + 1) k (by omega) hk (q.trans ek.symm);omega
    ·exact ni q
  ·have h:T.length + 1 < B:=h;obtain ⟨i,hi,ni⟩:=b6D T B f (by omega) inj;refine ⟨i,hi,fun q=>?_⟩
   rcases List.mem_cons.mp q with q | q
   ·exact z ⟨i,hi,q⟩
   ·exact ni q
theorem b0Z{t:DT}{b:DS}{E:M0}(P:Nat->Sl->Hh->Prop){m:Nat}{δ:Sl}{h:Hh}(h0:P m δ h)(step:∀ m δ h (N:Sl->Hh->Prop),P m δ h->(∀ m' δ' h',m' < m->P m' δ' h'->N δ' h')->t δ h fun c h1=>if c=true then b { E with nx:=N,ct:=N,bk:=E.nx } δ h1 else E.nx δ h1):a2c t b E δ h:=by
 refine ⟨m + 1,?_⟩
 have key:∀ n m δ h,m < n->P m δ h->whN t b E n δ h:=by
  intro n
  induction n with
  |zero=>intro m δ h hm;exact absurd hm (Nat.not_lt_zero _)
  |succ n ih =>
   intro m δ h hm hp;exact step m δ h _ hp fun m' δ' h' lt hp'=>ih m' δ' h' (by omega) hp'
 exact key _ m δ h (Nat.lt_succ_self m) h0
end CM
namespace CM
open PySem L2 DL
theorem b8c(l:List Nat)(c:Nat):slS (lw (l ++ [c])) none (some ((l.length:Nat):Int))=lw l:=by
 have hx:(lw (l ++ [c])).length=l.length + 1:=by rw [G4];simp
 have h0:Builtin.Str.strSliceIndices none (some ((l.length:Nat):Int)) 1 (lw (l ++ [c])).length=Builtin.Str.strSliceIndices (some ((0:Nat):Int)) (some ((l.length:Nat):Int)) 1 (lw (l ++ [c])).length:=by
  unfold Builtin.Str.strSliceIndices
  simp
  rw [show max (0:Int) (min 0 ((lw (l ++ [c])).length:Int))=0 by omega]
 have h1:=PySem.StrLaws.strSliceIndices_plain (a:=0) (b:=l.length) (len:=(lw (l ++ [c])).length) (Nat.zero_le _) (by omega);have h2:=PySem.StrLaws.sliced_plain (lw (l ++ [c])) (a:=0) (b:=l.length) (Nat.zero_le _) (by omega);unfold slS;rw [h0,h2,h1,hx];rw [if_neg (by simp)];unfold lw
 simp
end CM
namespace K62
open PySem L2 DL CM
local macro_rules | `(tactic| right) => `(tactic| first | decide | omega)
local macro_rules | `(tactic| simp only [VS]) => `(tactic| simp only [List.map_cons, List.map_nil, List.cons_append, List.nil_append, List.length_cons, List.length_nil, List.replicate, Nat.reduceSub, Nat.reduceAdd, Nat.zero_add, Nat.sub_self])
local macro_rules | `(tactic| left) => do
  let n := Lean.mkIdent `N
  let h := Lean.mkIdent `hN
  `(tactic| ((try dsimp only); refine L0 fun $n $h => ?_))
def vvA : String := "j7 d5 b9 dC dOp dUn j9 dTr F5 dOr Y6 F8 c1w c0N dIf m5 j8 c0B v8 j2 Q7 dCB n8 b0 d2 A0 dV dTk O5 c0w P0 K2 D2 u9 dSl K5 p6 V0 b0X c0W b3i q8 U1 c1C a7R C9 t9 C3 Q2 a3x u5 y8 c1d a5J c1B b9C c1r pI pI0 pB0 a1G pIs pIx pEq a0L v9 G7 a6k a9I c1E c1x m3 b7B E3 pIn c1A a4a b3u b1K c1z a6H b8g a3Q b2A c0x c1u L5 c0h a0o c1c b9J a1w a2H S9 a7M a2Y b8P b7l a3T b2V b2E a2Z a0h reduceIte"
def vvB : String := "a9Y V6 b9A b9H b9z b9e b9x b9f b9y eqS List.map_cons List.map_nil List.cons_append List.nil_append List.length_cons List.length_nil List.replicate List.getElem?_cons_zero List.getElem?_cons_succ List.set_cons_zero List.set_cons_succ Option.getD_some Option.getD_none List.getElem?_nil Bool.false_eq_true Bool.not_true Bool.not_false if_true if_false ite_true ite_false eq_self_iff_true decide_true decide_false Nat.reduceSub Nat.reduceAdd Nat.sub_zero Nat.sub_self Nat.zero_add Option.map_some Option.map_none Option.bind_some Option.bind_none b7z b7b b4e b8O b9g b9u b7F b6Z b5M b9c b9p b9r b9m b9l b9k b9t b7g b6H b8q b9q b9i b9j b9Z b9v b6U b8h b7e b6S b6X b6W a2Q a4z a4E a2F a3M a2N a8U b1I b0l a7J a9q a8Y b2c b2L b2q a9x b0N b1U b0R b2p b2r a8x b0J b0I a7b a8E a9f a5h a8s a7n a8V a9Q a9B a5T a9v a8J a9p b1G b0o a6u a8K a9e b9V c1f c1t c1a c1g c1b c1o c0Q c0E c0D c0R c0L c0K c1n c1s c0O c1v c0X c1j c0M c1m c0G c0Y c0A c0Z c0J c0y c0z c0U c0C c1h c0F c0I c1i c1p c0V c1k c0T b9n b2k b0H b5d b2m a9w a8w a8Q a8M a8e b4c b3e b9w b1T b0C b5A a9U a8F a8z a8N a8R a7y b4s b3g c1e b3P b5b b8W b6v b2Z b2F b3t b2z b1B b8B b7d b9h b0b a9F b4S b0e a8y a8T a8X a8C a7l b3Y b2I b8j a9c a8I b2u a8G a7P a6y a5M a6v a5l b2T b1Q b7A a9k a9i b3r a9s a7Y a6A a5x a7K a5q b2w a9D b7I a9h a8W b3f a8S a6j a8d a6V a8c a5g b2s b0K b8K a9a a9r b2S a8D a7k a6O a5y a7Z a5e b3l b0W b6Y a5C a6g b1f a6L a5n a5a a5c a5d a4I a9E a9n c0H b5p b3O b7u b3Q b3m b3p b3a b3h b1O b8U b7h b9I b2Y b2K b6T b2G b1t b1P b1F b0z a8B b7c b4d Bool.and_self Bool.and_true K64w.b6p K64w.a9t K64w.a8L K64w.a3t K64w.a8l K64w.a4Z K64w.a5r K64w.a5p K64w.b8Z K64w.b2R K64w.b2X K64w.a5m K64w.a9W K64w.a8O K64w.a8Z K64w.a8v K64w.b7v K64w.b2P K64w.b2D K64w.a5f K64w.b0M K64w.a9m K64w.a9o K64w.a8A K64w.b9o K64w.b6f K64w.b5w K64w.a6c K64w.b2H K64w.b1J K64w.b1a K64w.b2l K64w.b7V K64w.b2B K64w.b3v K64w.a5b K64w.b0m K64w.a9y K64w.a9u K64w.a9j K64w.b9U K64w.b7a K64w.b6V K64w.a8P K64w.b5S K64w.b2M K64w.b3w K64w.b3d K64w.c0a K64w.b7i K64w.b7f K64w.a9d K64w.b3C K64w.b3o K64w.b2y K64w.b2Q K64w.b5l K64w.a9b K64w.a8H K64w.a3k K64w.a6z K64w.a5j K64w.a5k K64w.a5o K64w.b3q K64w.b3j K64w.a5i K64w.a9H K64w.a9l K64w.a9g"
local macro_rules | `(tactic| simp only [VV]) => do
  let as := ((vvA.splitOn " ")).toArray.map fun s => Lean.mkIdent s.toName
  let bs := ((vvB.splitOn " ")).toArray.map fun s => Lean.mkIdent s.toName
  `(tactic| simp only [$[↓$as:ident],*, $[$bs:ident],*])
local macro_rules | `(tactic| simp only [$xs,*, VV]) => do
  let as := ((vvA.splitOn " ")).toArray.map fun s => Lean.mkIdent s.toName
  let bs := ((vvB.splitOn " ")).toArray.map fun s => Lean.mkIdent s.toName
  `(tactic| simp only [$xs,*, $[↓$as:ident],*, $[$bs:ident],*])
def top(i:Nat):Stmt:=PySem.Challenge.pw_callmatch_k62_whole_read_and_written.main.body.getD i (.Pass ⟨0,0,0,0⟩)
abbrev a7q:Stmt:=top 11
abbrev a6R:Stmt:=top 27
abbrev a5G:Stmt:=top 9
abbrev a8a:Stmt:=top 10
abbrev a6N:Stmt:=top 15
abbrev a6h:Stmt:=top 16
abbrev a7w:Stmt:=top 14
abbrev a8q:Stmt:=top 28
abbrev a8n:Stmt:=top 17
abbrev a7U:Stmt:=top 29
abbrev a8t:Stmt:=top 22
abbrev a7N:Stmt:=top 23
abbrev a5Z:Stmt:=top 24
abbrev a5S:Stmt:=top 25
abbrev a8h:Stmt:=top 30
abbrev a6w:Stmt:=top 26
abbrev a6T:Stmt:=top 21
abbrev a8u:Stmt:=top 34
abbrev a8p:Stmt:=top 33
abbrev a7V:Stmt:=top 32
abbrev a6s:Stmt:=top 47
abbrev a6S:Stmt:=top 48
abbrev b6j:Stmt:=top 50
abbrev b6B:Stmt:=top 36
abbrev a7X:Stmt:=top 38
abbrev b6s:Stmt:=top 44
abbrev b6M:Stmt:=top 37
abbrev b4x:Stmt:=top 39
abbrev a6i:Stmt:=top 45
abbrev b6n:Stmt:=top 43
abbrev b3D:Stmt:=top 42
abbrev a6f:Stmt:=top 40
abbrev b3y:Stmt:=top 41
abbrev b4q:Stmt:=top 46
abbrev b3x:Stmt:=top 49
abbrev N6:Stmt:=top 51
theorem b6Q:j1 ["text","first","last"] ["text","first","last"] (g8 a7q):=⟨rfl,rfl,rfl,by decide +kernel,rfl,by decide +kernel,by decide +kernel⟩
theorem b5N:j1 ["sort"] ["sort"] (g8 a6R):=⟨rfl,rfl,rfl,by decide +kernel,rfl,by decide +kernel,by decide +kernel⟩
theorem b4K:j1 ["text"] ["text"] (g8 a5G):=⟨rfl,rfl,rfl,by decide +kernel,rfl,by decide +kernel,by decide +kernel⟩
theorem b4j:j1 ["text"] ["text"] (g8 a8a):=⟨rfl,rfl,rfl,by decide +kernel,rfl,by decide +kernel,by decide +kernel⟩
theorem b5k:j1 ["words"] ["words"] (g8 a6N):=⟨rfl,rfl,rfl,by decide +kernel,rfl,by decide +kernel,by decide +kernel⟩
theorem b4E:j1 ["words"] ["words"] (g8 a6h):=⟨rfl,rfl,rfl,by decide +kernel,rfl,by decide +kernel,by decide +kernel⟩
theorem b6A:j1 ["words"] ["words"] (g8 a7w):=⟨rfl,rfl,rfl,by decide +kernel,rfl,by decide +kernel,by decide +kernel⟩
theorem sc_q33:j1 ["variables","names","more","name"] ["variables","names"] (g8 a8q):=⟨rfl,rfl,rfl,by decide +kernel,rfl,by decide +kernel,by decide +kernel⟩
theorem b5P:j1 ["sort","words"] ["sort","words"] (g8 a8n):=⟨rfl,rfl,rfl,by decide +kernel,rfl,by decide +kernel,by decide +kernel⟩
theorem b3W:j1 ["heads","rows","sort","words"] ["heads","rows","sort","words"] (g8 a7U):=⟨rfl,rfl,rfl,by decide +kernel,rfl,by decide +kernel,by decide +kernel⟩
theorem sc_q23:j1 ["text","lines","number","row","words"] ["text"] (g8 a8t):=⟨rfl,rfl,rfl,by decide +kernel,rfl,by decide +kernel,by decide +kernel⟩
theorem sc_q25:j1 ["lines","parts","line"] ["lines"] (g8 a7N):=⟨rfl,rfl,rfl,by decide +kernel,rfl,by decide +kernel,by decide +kernel⟩
theorem sc_q19:j1 ["parts","heads","f","part","words"] ["parts"] (g8 a5Z):=⟨rfl,rfl,rfl,by decide +kernel,rfl,by decide +kernel,by decide +kernel⟩
theorem sc_q16:j1 ["heads","f","part","names","given","right"] ["heads","f","part"] (g8 a5S):=⟨rfl,rfl,rfl,by decide +kernel,rfl,by decide +kernel,by decide +kernel⟩
theorem sc_q27:j1 ["heads","variables","sort","words","named"] ["heads","variables","sort","words"] (g8 a8h):=⟨rfl,rfl,rfl,by decide +kernel,rfl,by decide +kernel,by decide +kernel⟩
theorem sc_q18:j1 ["heads","part","edges","own","variables","rows","number","words","sort","room"] ["heads","part","edges"] (g8 a6w):=⟨rfl,rfl,rfl,by decide +kernel,rfl,by decide +kernel,by decide +kernel⟩
theorem sc_q26:j1 ["text","lines","parts","heads","program","edges","f","part","function"] ["text"] (g8 a6T):=⟨rfl,rfl,rfl,by decide +kernel,rfl,by decide +kernel,by decide +kernel⟩
theorem b4J:j1 ["program","variables","row"] ["program","variables","row"] (g8 a8u):=⟨rfl,rfl,rfl,by decide +kernel,rfl,by decide +kernel,by decide +kernel⟩
theorem sc_q34:j1 ["program","variables","row","sort","name"] ["program","variables","row"] (g8 a8p):=⟨rfl,rfl,rfl,by decide +kernel,rfl,by decide +kernel,by decide +kernel⟩
theorem sc_q35:j1 ["program","lines","name","given","variables","rows"] ["program"] (g8 a7V):=⟨rfl,rfl,rfl,by decide +kernel,rfl,by decide +kernel,by decide +kernel⟩
theorem sc_q11:j1 ["_law_row","_law_variables","_law_words","_law_x"] ["_law_row","_law_variables","_law_words"] (g8 a6s):=⟨rfl,rfl,rfl,by decide +kernel,rfl,by decide +kernel,by decide +kernel⟩
theorem sc_q14:j1 ["_law_program_here","_law_words","_law_rows","_law_name","_law_given","_law_variables","_law_body"] ["_law_program_here"] (g8 a6S):=⟨rfl,rfl,rfl,by decide +kernel,rfl,by decide +kernel,by decide +kernel⟩
theorem sc_q5:j1 ["_law_found","_law_due","_law_name","_law_given","_law_variables","_law_rows","_law_row","_law_thing"] ["_law_found","_law_due"] (g8 b6j):=⟨rfl,rfl,rfl,by decide +kernel,rfl,by decide +kernel,by decide +kernel⟩
theorem b7E:j1 ["_law_script","_law_k"] ["_law_script","_law_k"] (g8 b6B):=⟨rfl,rfl,rfl,by decide +kernel,rfl,by decide +kernel,by decide +kernel⟩
theorem sc_q13:j1 ["_law_cell","_law_many","_law_found","_law_number","_law_k"] ["_law_cell","_law_many"] (g8 a7X):=⟨rfl,rfl,rfl,by decide +kernel,rfl,by decide +kernel,by decide +kernel⟩
theorem b8S:j1 ["_law_row"] ["_law_row"] (g8 b6s):=⟨rfl,rfl,rfl,by decide +kernel,rfl,by decide +kernel,by decide +kernel⟩
theorem b8l:j1 ["_law_script","_law_first","_law_most"] ["_law_script","_law_first","_law_most"] (g8 b6M):=⟨rfl,rfl,rfl,by decide +kernel,rfl,by decide +kernel,by decide +kernel⟩
theorem sc_q3:j1 ["_law_cell","_law_many","_law_free","_law_found","_law_k"] ["_law_cell","_law_many","_law_free"] (g8 b4x):=⟨rfl,rfl,rfl,by decide +kernel,rfl,by decide +kernel,by decide +kernel⟩
theorem sc_q10:j1 ["_law_row","_law_order","_law_x"] ["_law_row","_law_order"] (g8 a6i):=⟨rfl,rfl,rfl,by decide +kernel,rfl,by decide +kernel,by decide +kernel⟩
theorem sc_q4:j1 ["_law_cell","_law_gives","_law_many","_law_labels_here","_law_free","_law_xs","_law_x","_law_y","_law_way","_law_g"] ["_law_cell","_law_gives","_law_many","_law_labels_here","_law_free"] (g8 b6n):=⟨rfl,rfl,rfl,by decide +kernel,rfl,by decide +kernel,by decide +kernel⟩
theorem sc_q0:j1 ["_law_cells_here","_law_sizes","_law_bodies_here","_law_edges","_law_cell","_law_weight"] ["_law_cells_here","_law_sizes"] (g8 b3D):=⟨rfl,rfl,rfl,by decide +kernel,rfl,by decide +kernel,by decide +kernel⟩
theorem sc_q12:j1 ["_law_cell","_law_many","_law_free","_law_letters","_law_size","_law_at","_law_found","_law_j","_law_name","_law_k","_law_place"] ["_law_cell","_law_many","_law_free"] (g8 a6f):=⟨rfl,rfl,rfl,by decide +kernel,rfl,by decide +kernel,by decide +kernel⟩
theorem sc_q8:j1 ["_law_cell","_law_many","_law_free","_law_letters","_law_taken","_law_names_here","_law_name","_law_last"] ["_law_cell","_law_many","_law_free"] (g8 b3y):=⟨rfl,rfl,rfl,by decide +kernel,rfl,by decide +kernel,by decide +kernel⟩
theorem sc_q9:j1 ["_law_script","_law_words","_law_names_here","_law_sizes","_law_free","_law_labels_here","_law_bodies_here","_law_heads","_law_gives","_law_program_here","_law_f","_law_body","_law_rows","_law_last","_law_order","_law_row","_law_label","_law_variables"] ["_law_script","_law_words","_law_names_here","_law_sizes"] (g8 b4q):=⟨rfl,rfl,rfl,by decide +kernel,rfl,by decide +kernel,by decide +kernel⟩
theorem sc_q7:j1 ["_law_rows","_law_cell","_law_free","_law_xs","_law_texts","_law_k","_law_words","_law_text","_law_j","_law_word"] ["_law_rows","_law_cell","_law_free"] (g8 b3x):=⟨rfl,rfl,rfl,by decide +kernel,rfl,by decide +kernel,by decide +kernel⟩
theorem sc_q22:j1 ["_law_script","_law_free","_law_words","_law_names_here","_law_program_here","_law_rows","_law_tight","_law_loose_here","_law_found","_law_other"] ["_law_script"] (g8 N6):=⟨rfl,rfl,rfl,by decide +kernel,rfl,by decide +kernel,by decide +kernel⟩
def N5:List Str:= ["function","call","dye","wash","if","to","return","back","here"]
def w_OPS:List Str:= ["+","-","*"]
structure Txt(P:Program)(w:World)(K:PySem.W.Frag)(mg:Str->Option Value):Prop where
 b_all:mg "all" = none
 b_bool:mg "bool" = none
 b_enumerate:mg "enumerate" = none
 b_int:mg "int" = none
 b_isinstance:mg "isinstance" = none
 b_len:mg "len" = none
 b_list:mg "list" = none
 b_min:mg "min" = none
 b_range:mg "range" = none
 b_set:mg "set" = none
 b_str:mg "str" = none
 b_sum:mg "sum" = none
 b_tuple:mg "tuple" = none
 t_KEPT_WORDS:∃ a,mg "KEPT_WORDS" = some (.ref a)/\b0Q K a N5
 c_MOST_EDGES:∃ t,mg "MOST_EDGES" = some (.int 24 t)
 c_MOST_FIGURES:∃ t,mg "MOST_FIGURES" = some (.int 18 t)
 c_MOST_FUNCTIONS:∃ t,mg "MOST_FUNCTIONS" = some (.int 6 t)
 c_MOST_ROWS:∃ t,mg "MOST_ROWS" = some (.int 9 t)
 c_MOST_SIGNS:∃ t,mg "MOST_SIGNS" = some (.int 8 t)
 c_MOST_VARIABLES:∃ t,mg "MOST_VARIABLES" = some (.int 4 t)
 t_OPS:∃ a,mg "OPS" = some (.ref a)/\b0Q K a w_OPS
section
variable {P:Program} {w:World} {K:PySem.W.Frag} {mg:Str->Option Value} {base:Heap}
def a7L:DS:=(j8 (dCB b2o (b0 (dV (u5 [none,some 1,some 2] (b3u (b9 0)) (d5 0) y8 (K2 b1K b1K (b9 1) (b9 0) (b9 2)))) d2)))
theorem c_a:(Str.ofString "a").cps.toList=[97]:=by decide +kernel
theorem c_z:(Str.ofString "z").cps.toList=[122]:=by decide +kernel
theorem c_0:(Str.ofString "0").cps.toList=[48]:=by decide +kernel
theorem c_9:(Str.ofString "9").cps.toList=[57]:=by decide +kernel
def nuD:Option Nat->D
 |some n=>nD n
 |none=>.non
def a0m:DSp:=fun ds h Q=>∃ (x y z:Str) (a b n:Nat),ds=[.str x,.str y,.str z]/\TOk x n/\n <= 10000/\y.cps.toList=[a]/\z.cps.toList=[b]/\Q (.bl (x.cps.toList.all fun c=>decide (a <= c) && decide (c <= b))) h
theorem b2b:∀ ds h Q,a0m ds h Q->m4 3 a7L ds h Q:=by
 rintro ds h Q ⟨x,y,z,a,b,n,rfl,hx,hn,ey,ez,q⟩
 have hxl:=hx.2;rw [a0M] at hxl;delta m4 a7L;simp only [VS];simp only [W4,List.length_map,VV];refine ⟨by right,?_⟩;refine z6 (fun c:Nat=>.bl (decide (a <= c) && decide (c <= b))) Src.ok_nil none (fun c hc K kk=>?_) ?_
 ·simp only [ey,ez,b6l,VV]
  by_cases z1:a <= c
  ·have e1:decide (c < a)=false:=decide_eq_false (by right);simp only [e1,VV];rw [decide_eq_true z1] at kk
   by_cases z2:c <= b
   ·have e2:decide (b < c)=false:=decide_eq_false (by right);rw [decide_eq_true z2] at kk;simp only [e2,VV];exact kk
   ·have e2:decide (b < c)=true:=decide_eq_true (by right);rw [decide_eq_false z2] at kk;simp only [e2,VV];exact kk
  ·have e1:decide (c < a)=true:=decide_eq_true (by right);simp only [e1,VV];rw [decide_eq_false z1] at kk;exact kk
 ·refine ⟨_,x.cps.toList.map fun c=>decide (a <= c) && decide (c <= b),rfl,?_,?_⟩
  ·show some _=some _;rw [List.map_map];rfl
  ·rw [List.all_map];exact q
theorem b5H{f:Addr}{fd:FuncData}(F:Fun K "all_between" "all_between" a7q f fd)(T:Txt P w K mg):t8 P w K mg base CX0 1 f fd ["text","first","last"] (spD K 3 a0m) :=
 x0 (k:=0) (b:=a7L) F b6Q (fun cdv A outer s H E hr=>by
  refine c8 ?_;refine i6 ?_;exact i7 (a2C rfl) rfl T.b_all PyProof.Rows.boot_all (a9 (p4 (p9 rfl (N':= ["sign","first","last"]) (js:=[none,some 1,some 2]) ⟨rfl,by decide +kernel,rfl,rfl,rfl⟩ (b4b (sv 0)) (fun s0 H0 fp=>⟨(h6 (i:=0) (show (["sign","first","last"]:List Str).Nodup by decide +kernel) rfl (Or.inl rfl)),u2,(Y3 a5Y a5Y (sv 1) (sv 0) (sv 2))⟩))) c6)) b2b
def a6Z:DS:=(j8 (dIf (j9 (dOp (pEq false) (b9 0) (dC (.str "if")))) (dC (.int 2)) (dC (.int 1))))
def Z2:DSp:=fun ds h Q=>∃ r:Rw,ds=[.str (y3 r)]/\Q (nD (wtR r)) h
theorem a9P:∀ ds h Q,Z2 ds h Q->m4 1 a6Z ds h Q:=by
 rintro ds h Q ⟨r,rfl,q⟩
 delta m4 a6Z;simp only [VS]
 cases r <;> (simp only [y3,VV];exact q)
theorem b6z{f:Addr}{fd:FuncData}(F:Fun K "edges_of" "edges_of" a6R f fd)(T:Txt P w K mg):t8 P w K mg base CX0 1 f fd ["sort"] (spD K 1 Z2) :=
 x0 (k:=0) (b:=a6Z) F b5N (fun cdv A outer s H E hr=>by
  exact c8 (i6 (a7g (g9 (j6 hr.units) (sv 0) d6) b7 b7))) a9P
def a6W:DS:=(j8 (F8 (K2 pLe pLe (dC (.int 1)) (dCB v9 (b0 (b9 0) d2)) (dC (.int 8))) (F8 (b2A N5 (b9 0)) (n8 a0m (b0 (b9 0) (b0 (dC (.str "a")) (b0 (dC (.str "z")) d2)))))))
def C2:DSp:=fun ds h Q=>∃ (x:Str) (n:Nat),ds=[.str x]/\TOk x n/\n <= 10000/\Q (.bl (isN x)) h
theorem b2d:∀ ds h Q,C2 ds h Q->m4 1 a6W ds h Q:=by
 rintro ds h Q ⟨x,n,rfl,hx,hn,q⟩
 have ln:∀ h:Hh,T7 h (.str x)=some x.length:=fun h=>a1s hx (by right);delta m4 a6W;simp only [VS];simp only [ln,pLe,VV]
 have fls:(decide (1 <= x.length) && decide (x.length <= 8))=false->Q (.bl false) h:=fun z=>by
  have:isN x=false:=by unfold isN;rw [z];rfl
  rw [this] at q;exact q
 refine Q0 (fun c1=>?_) (fun c1=>fls ?_)
 ·have n1:decide (1 <= x.length)=true:=decide_eq_true (by have:=of_decide_eq_true c1;omega);refine Q0 (fun c2=>?_) (fun c2=>fls ?_)
  ·have n2:decide (x.length <= 8)=true:=decide_eq_true (by have:=of_decide_eq_true c2;omega);refine Q0 (fun c3=>?_) (fun c3=>?_)
   ·refine ⟨x,_,_,97,122,n,rfl,hx,hn,c_a,c_z,?_⟩
    have:isN x=x.cps.toList.all (fun c=>decide (97 <= c) && decide (c <= 122)):=by
     unfold isN;rw [n1,n2,show (!(kept.any fun y=>y == x))=true from c3];rfl
    rw [this] at q;exact q
   ·have:isN x=false:=by
     unfold isN;rw [n1,n2,show (!(kept.any fun y=>y == x))=false from c3];rfl
    rw [this] at q;exact q
  ·rw [show decide (x.length <= 8)=false from decide_eq_false (by have:=of_decide_eq_false c2;omega),Bool.and_false]
 ·rw [show decide (1 <= x.length)=false from decide_eq_false (by have:=of_decide_eq_false c1;omega)];rfl
theorem b6c{f:Addr}{fd:FuncData}(F:Fun K "is_name" "is_name" a5G f fd)(T:Txt P w K mg)(C_q15:Cal P w K mg base 1 "all_between" ["text","first","last"] (spD K 3 a0m)):t8 P w K mg base CX0 2 f fd ["text"] (spD K 1 C2) :=
 x0 (k:=1) (b:=a6W) F b4K (fun cdv A outer s H E hr=>by
  refine c8 ?_;refine i6 ?_;exact C0 (Y3 M3 M3 b7 (i7 m6 rfl T.b_len PySem.boot_len (a9 (sv 0) c6)) (D5 rfl T.c_MOST_SIGNS)) (C0 (b2f rfl T.t_KEPT_WORDS (sv 0)) (X8 (h7 C_q15 (hr.mono (by decide)) rfl (a9 (sv 0) (a9 d6 (a9 d6 c6))))))) b2d
def a5D:DS:=(d9 (m5 (Y6 (F5 (j9 (K2 pLe pLe (dC (.int 1)) (dCB v9 (b0 (b9 0) d2)) (dC (.int 18)))) (dTr (n8 a0m (b0 (b9 0) (b0 (dC (.str "0")) (b0 (dC (.str "9")) d2))))))) (j8 (dC .non)) j2)
  (d9 (m5 (F5 (j9 (dOp (pEq false) (dOp pIx (b9 0) (dC (.int 0))) (dC (.str "0")))) (j9 (dOp (pEq true) (b9 0) (dC (.str "0"))))) (j8 (dC .non)) j2)
  (j8 (dCB a6H (b0 (b9 0) d2)))))
def J3:DSp:=fun ds h Q=>∃ (x:Str) (n:Nat),ds=[.str x]/\TOk x n/\n <= 10000/\Q (nuD (a2u x)) h
theorem b2a:∀ ds h Q,J3 ds h Q->m4 1 a5D ds h Q:=by
 rintro ds h Q ⟨x,n,rfl,hx,hn,q⟩
 have ln:∀ h:Hh,T7 h (.str x)=some x.length:=fun h=>a1s hx (by right);delta m4 a5D;simp only [VS];left;simp only [ln,pLe,VV]
 have non:¬ ((1 <= x.length/\x.length <= 18)/\x.cps.toList.all isF=true)->Q .non h:=fun z=>by
  rw [show a2u x=none from if_neg z] at q;exact q
 refine Q0 (fun c1=>?_) (fun c1=>non fun z=>?_)
 ·have n1:1 <= x.length:=by have:=of_decide_eq_true c1;omega
  refine Q0 (fun c2=>?_) (fun c2=>non fun z=>?_)
  ·have n2:x.length <= 18:=by have:=of_decide_eq_true c2;omega
   refine ⟨x,_,_,48,57,n,rfl,hx,hn,c_0,c_9,?_⟩;simp only [VV];refine Q0 (fun c3=>non fun z=>?_) (fun c3=>?_)
   ·have c3:(!(x.cps.toList.all isF))=true:=c3;rw [z.2] at c3;cases c3
   have c3:x.cps.toList.all isF=true:=by
    have c3:(!(x.cps.toList.all isF))=false:=c3
    cases w:x.cps.toList.all isF with
    |true=>rfl
    |false=>rw [w] at c3;cases c3
   have e0:a2u x=if x.cps.toList.head?=some 48/\1 < x.length then none else some (PySem.NumText.digitsVal x.cps.toList):=if_pos ⟨⟨n1,n2⟩,c3⟩
   obtain ⟨d0,r,er⟩:∃ d0 r,x.cps.toList=d0 :: r:=by
    cases w:x.cps.toList with
    |nil=>rw [a0M,w] at n1;cases n1
    |cons d r=>exact ⟨d,r,rfl⟩
   have t0:=hx.one (c:=d0) (by rw [er];exact List.mem_cons_self);have z0:PyData.strOk (Str.ofString "0")=true:=by decide +kernel
   have b1:((⟨#[d0]⟩:Str) == Str.ofString "0")=decide (d0=48):=by
    rw [a3w,c_0];apply decide_eq_decide.mpr;simp
   have b2:(x == Str.ofString "0")=decide (d0=48/\r=[]):=by
    rw [a3w,c_0,er];apply decide_eq_decide.mpr;simp
   have ad:PySem.NumText.AllDigits x.cps.toList:=fun c hc=>by
    have:=List.all_eq_true.mp c3 c hc
    unfold isF at this;rw [Bool.and_eq_true] at this;exact ⟨of_decide_eq_true this.1,of_decide_eq_true this.2⟩
   have rl:x.length=r.length + 1:=by rw [a0M,er];rfl
   subst hN;left
   have fin:¬ (x.cps.toList.head?=some 48/\1 < x.length)->N [some (.str x)] h:=fun z=>by
    rw [e0,if_neg z] at q;subst hN;simp only [VV];exact ⟨by right,_,PySem.intText_digits ad (by rw [er];exact List.cons_ne_nil _ _) (by right),q⟩
   simp only [b0a hx hn er,t0.1,z0,b1,Bool.and_self,hx.1,b2,VV];refine Q0 (fun c4=>?_) (fun c4=>fin fun z=>?_)
   ·have c4:=of_decide_eq_true c4;refine Q0 (fun c5=>?_) (fun c5=>fin fun z=>?_)
    ·have c5:¬ (d0=48/\r=[]):=by
      intro z;rw [decide_eq_true z] at c5;cases c5
     have rn:r ≠ []:=fun z=>c5 ⟨c4,z⟩;rw [e0,if_pos ⟨by rw [er,c4];rfl,by have:=List.length_pos_iff.mpr rn;omega⟩] at q;exact q
    ·have c5:d0=48/\r=[]:=by
      by_cases w:d0=48/\r=[]
      ·exact w
      ·rw [decide_eq_false w] at c5;cases c5
     rw [c5.2] at rl
     have:=z.2
     simp at rl
     omega
   ·have c4:=of_decide_eq_false c4
    have:=z.1
    rw [er] at this;exact c4 (Option.some.inj this)
  ·have:=of_decide_eq_false c2;omega
 ·have:=of_decide_eq_false c1;omega
theorem b6F{f:Addr}{fd:FuncData}(F:Fun K "number_of" "number_of" a8a f fd)(T:Txt P w K mg)(C_q15:Cal P w K mg base 1 "all_between" ["text","first","last"] (spD K 3 a0m)):t8 P w K mg base CX0 2 f fd ["text"] (spD K 1 J3) :=
 x0 (k:=1) (b:=a5D) F b4j (fun cdv A outer s H E hr=>by
  refine c7 ?_ ?_
  ·refine m7 ?_ (c8 (i6 F2)) i5;exact J0 (F7 (u8 (a1t M3 M3 b7 (i7 m6 rfl T.b_len PySem.boot_len (a9 (sv 0) c6)) (D5 rfl T.c_MOST_FIGURES)) (y7 (o0 (h7 C_q15 (hr.mono (by decide)) rfl (a9 (sv 0) (a9 d6 (a9 d6 c6))))))))
  refine c7 ?_ ?_
  ·refine m7 ?_ (c8 (i6 F2)) i5;exact F7 (u8 (g9 (j6 hr.units) (d4 d3 (sv 0) b7) d6) (y7 (g9 (a1v hr.units) (sv 0) d6)))
  exact c8 (i6 (o8 b0T rfl T.b_int PyProof.Rows.boot_int (a9 (sv 0) c6)))) b2a
def a7r:DS:=(d9 (m5 (F5 (j9 (dOp (pEq false) (dCB v9 (b0 (b9 0) d2)) (dC (.int 1)))) (j9 (dOp (pIs true) (n8 J3 (b0 (dOp pIx (b9 0) (dC (.int 0))) d2)) (dC .non)))) (j8 (dC (.str "number"))) j2)
  (d9 (m5 (F5 (j9 (dOp (pEq false) (dCB v9 (b0 (b9 0) d2)) (dC (.int 1)))) (dTr (n8 C2 (b0 (dOp pIx (b9 0) (dC (.int 0))) d2)))) (j8 (dC (.str "copy"))) j2)
  (d9 (m5 (F5 (j9 (dOp (pEq false) (dCB v9 (b0 (b9 0) d2)) (dC (.int 3)))) (F5 (dTr (n8 C2 (b0 (dOp pIx (b9 0) (dC (.int 0))) d2))) (F5 (j9 (b7l w_OPS (dOp pIx (b9 0) (dC (.int 1))))) (dTr (n8 C2 (b0 (dOp pIx (b9 0) (dC (.int 2))) d2)))))) (j8 (dC (.str "does"))) j2)
  (d9 (m5 (F5 (j9 (dOp pGt (dCB v9 (b0 (b9 0) d2)) (dC (.int 1)))) (F5 (j9 (dOp (pEq false) (dOp pIx (b9 0) (dC (.int 0))) (dC (.str "call")))) (dTr (dCB b2o (b0 (dV (u5 [none] (t9 (dSl (b9 0) (D2 (dC (.int 1))) u9)) (d5 0) y8 (n8 C2 (b0 (b9 0) d2)))) d2))))) (j8 (dC (.str "call"))) j2)
  (j8 (dC .non))))))
theorem O8(xs:List D)(k:Nat)(hk:k <= xs.length):E8 xs (some (k:Int)) none=xs.drop k:=by
 unfold E8;rw [show HT.sIx xs.length xs.length none=xs.length from rfl,show HT.sIx xs.length 0 (some (k:Int))=k by rw [HT.sIx_nat];omega];exact List.take_of_length_le (by rw [List.length_drop];omega)
theorem a7e(a:D)(xs:List D):E8 (a :: xs) (some 1) none=xs:=O8 (a :: xs) 1 (by simp)
theorem q31:(((3:Nat):Int) == 1)=false:=rfl
theorem q33:(((3:Nat):Int) == 3)=true:=rfl
theorem q13:(((1:Nat):Int) == 3)=false:=rfl
theorem q11:(((1:Nat):Int) == 1)=true:=rfl
theorem q22:(((2:Nat):Int) == 2)=true:=rfl
theorem q24:(((2:Nat):Int) == 4)=false:=rfl
theorem q42:(((4:Nat):Int) == 2)=false:=rfl
theorem q44:(((4:Nat):Int) == 4)=true:=rfl
theorem qn1(n:Nat):(((n + 1 + 1:Nat):Int) == 1)=false:=beq_eq_false_iff_ne.mpr (by right)
theorem qg1(n:Nat):((1:Int) < ((n + 1 + 1:Nat):Int)):=by right
theorem a7O:isN (Str.ofString "call")=false:=by decide +kernel
theorem a7z:TOk (Str.ofString "call") 8:=by decide +kernel
theorem b3S{o:Str}(h:o ∈ W0):(w_OPS.any fun y=>y == o)=true:=List.any_eq_true.mpr ⟨o,h,beq_self_eq_true o⟩
theorem M8:PyData.strOk (Str.ofString "=")=true:=by decide +kernel
theorem a8k{o:Str}(h:o ∈ W0):TOk o 8/\isN o=false/\(o == Str.ofString "=")=false:=by
 unfold W0 at h;simp only [List.mem_cons,List.not_mem_nil,or_false] at h
 rcases h with rfl | rfl | rfl <;> refine ⟨by decide +kernel,by decide +kernel,by decide +kernel⟩
def a3S:DSp:=fun ds h Q=>∃ (ws vs:List Str) (gv:List Nat) (many:Nat) (r:Rw),ds=[.lst (((l7 ws vs r).drop 2).map .str)]/\NG ws/\NG vs/\L6 ws vs gv many r/\((∃ x k,r = .num x k)\/(∃ x y,r = .copy x y)\/(∃ x o y z,r = .does x o y z)\/∃ x g ys,r = .call x g ys)/\Q (.str (y3 r)) h
theorem a9T:∀ ds h Q,a3S ds h Q->m4 1 a7r ds h Q:=by
 rintro ds h Q ⟨ws,vs,gv,many,r,rfl,hw,hv,hg,hr,q⟩
 have nm:∀ x ∈ d8 r,isN (vn vs x)=true:=fun x hx=>hv _ (F1 (hg.1 x hx));delta m4 a7r;simp only [VS];left
 rcases hr with ⟨x,k,rfl⟩ | ⟨x,y,rfl⟩ | ⟨x,o,y,z,rfl⟩ | ⟨x,g,ys,rfl⟩
 ·obtain ⟨_,_,k0,k1⟩:=hg;have kn:k.toNat < 10 ^ 18:=by right
  simp only [l7,List.drop,VV];refine ⟨_,_,rfl,(B4 kn).1,by decide,?_⟩;rw [J7 kn];exact q
 ·have hx:=nm y (by simp [d8]);obtain ⟨t1,t2,t3,t4,t5⟩:=u0 hx;simp only [l7,List.drop,VV];refine ⟨_,_,rfl,t1,by decide,?_⟩;rw [t5];refine Y2 ?_;subst hN;left;simp only [VV];refine ⟨_,_,rfl,t1,by decide,?_⟩;rw [hx];simp only [VV];exact q
 ·have hy:=nm y (by simp [d8]);have hz:=nm z (by simp [d8]);have ho:o ∈ W0:=hg.2.2;simp only [l7,List.drop,q31,VV];subst hN;left;simp only [q31,VV];subst hN;left;simp only [q33,VV];refine ⟨_,_,rfl,(u0 hy).1,by decide,?_⟩;rw [hy];simp only [b3S ho,VV];refine ⟨_,_,rfl,(u0 hz).1,by decide,?_⟩;rw [hz];simp only [VV];exact q
 ·obtain ⟨h1,h2,g1,g2⟩:=hg;have hgn:isN (vn ws g)=true:=hw _ (F1 g1);simp only [l7,List.drop,qn1,VV];subst hN;left;simp only [qn1,VV];subst hN;left
  have last:N [some (D.lst (D.str (Str.ofString "call") :: D.str (vn ws g) :: List.map D.str (List.map (vn vs) ys)))] h:=by
   subst hN;left;simp only [qg1,E6,a7e,VV];have e:(D.str (vn ws g) :: List.map D.str (List.map (vn vs) ys))=(vn ws g :: ys.map (vn vs)).map D.str:=rfl
   have ok:∀ s ∈ vn ws g :: ys.map (vn vs),isN s=true:=fun s hs=>by
    rcases List.mem_cons.mp hs with rfl | hs
    ·exact hgn
    ·obtain ⟨y,hy,rfl⟩:=List.mem_map.mp hs;exact nm y (List.mem_cons_of_mem _ hy)
   have h2':ys.length + 1 <= 10:=h2;rw [e];refine ⟨by simp;omega,?_⟩;refine z6 (fun s=>.bl (isN s)) Src.ok_nil none (fun s hs K kk=>?_) ?_
   ·simp only [VV];exact ⟨_,_,rfl,(u0 (ok s hs)).1,by decide,kk⟩
   ·refine ⟨_,(vn ws g :: ys.map (vn vs)).map isN,rfl,by rw [List.map_map];rfl,?_⟩;rw [List.all_map,show (vn ws g :: ys.map (vn vs)).all ((fun b=>b) ∘ isN)=true from List.all_eq_true.mpr (fun s hs=>ok s hs)];simp only [VV];exact q
  by_cases z:(((List.map D.str (List.map (vn vs) ys)).length + 1 + 1:Nat):Int) == 3
  ·simp only [z,E6,VV];refine ⟨_,_,rfl,a7z,by decide,?_⟩;rw [a7O];simp only [VV];exact last
  ·simp only [z,VV];exact last
theorem b3J{f:Addr}{fd:FuncData}(F:Fun K "sort_of_value" "sort_of_value" a6N f fd)(T:Txt P w K mg)(C_q24:Cal P w K mg base 2 "number_of" ["text"] (spD K 1 J3))(C_q20:Cal P w K mg base 2 "is_name" ["text"] (spD K 1 C2)):t8 P w K mg base CX0 3 f fd ["words"] (spD K 1 a3S) :=
 x0 (k:=2) (b:=a7r) F b5k (fun cdv A outer s H E hr=>by
  refine c7 ?_ ?_
  ·refine m7 ?_ (c8 (i6 d6)) i5;exact F7 (u8 (g9 (j6 hr.units) (i7 m6 rfl T.b_len PySem.boot_len (a9 (sv 0) c6)) b7) (y7 (g9 X1 (h7 C_q24 (hr.mono (by decide)) rfl (a9 (d4 d3 (sv 0) b7) c6)) F2)))
  refine c7 ?_ ?_
  ·refine m7 ?_ (c8 (i6 d6)) i5;exact F7 (u8 (g9 (j6 hr.units) (i7 m6 rfl T.b_len PySem.boot_len (a9 (sv 0) c6)) b7) (y7 (o0 (h7 C_q20 (hr.mono (by decide)) rfl (a9 (d4 d3 (sv 0) b7) c6)))))
  refine c7 ?_ ?_
  ·refine m7 ?_ (c8 (i6 d6)) i5;exact F7 (u8 (g9 (j6 hr.units) (i7 m6 rfl T.b_len PySem.boot_len (a9 (sv 0) c6)) b7) (u8 (o0 (h7 C_q20 (hr.mono (by decide)) rfl (a9 (d4 d3 (sv 0) b7) c6))) (u8 (b5X rfl T.t_OPS (d4 d3 (sv 0) b7)) (y7 (o0 (h7 C_q20 (hr.mono (by decide)) rfl (a9 (d4 d3 (sv 0) b7) c6)))))))
  refine c7 ?_ (c8 (i6 F2));refine m7 ?_ (c8 (i6 d6)) i5;exact F7 (u8 (g9 a0s (i7 m6 rfl T.b_len PySem.boot_len (a9 (sv 0) c6)) b7) (u8 (g9 (j6 hr.units) (d4 d3 (sv 0) b7) d6) (y7 (o0 (i7 (a2C rfl) rfl T.b_all PyProof.Rows.boot_all (a9 (p4 (p9 rfl (N':= ["word"]) (js:=[none]) ⟨rfl,by decide +kernel,rfl,rfl,rfl⟩ (o9 (G2 (sv 0) (w9 b7) y0)) (fun s0 H0 fp=>⟨(h6 (i:=0) (show (["word"]:List Str).Nodup by decide +kernel) rfl (Or.inl rfl)),u2,(h7 C_q20 (hr.mono (by decide)) rfl (a9 (sv 0) c6))⟩))) c6))))))) a9T
def a6q:DS:=(d9 (m5 (F5 (j9 (dOp (pEq false) (dCB v9 (b0 (b9 0) d2)) (dC (.int 2)))) (F5 (j9 (dOp (pIn false) (dOp pIx (b9 0) (dC (.int 0))) (A0 (b0 (dC (.str "dye")) (b0 (dC (.str "wash")) (b0 (dC (.str "return")) d2)))))) (dTr (n8 C2 (b0 (dOp pIx (b9 0) (dC (.int 1))) d2))))) (j8 (dOp pIx (b9 0) (dC (.int 0)))) j2)
  (d9 (m5 (F5 (j9 (dOp (pEq false) (dCB v9 (b0 (b9 0) d2)) (dC (.int 2)))) (F5 (j9 (dOp (pEq false) (dOp pIx (b9 0) (dC (.int 0))) (dC (.str "to")))) (j9 (dOp (pIs true) (n8 J3 (b0 (dOp pIx (b9 0) (dC (.int 1))) d2)) (dC .non))))) (j8 (dC (.str "to"))) j2)
  (d9 (m5 (F5 (j9 (dOp (pEq false) (dCB v9 (b0 (b9 0) d2)) (dC (.int 4)))) (F5 (j9 (dOp (pEq false) (dOp pIx (b9 0) (dC (.int 0))) (dC (.str "if")))) (dTr (n8 C2 (b0 (dOp pIx (b9 0) (dC (.int 1))) d2))))) (j8 (dIf (F5 (j9 (dOp (pEq false) (dOp pIx (b9 0) (dC (.int 2))) (dC (.str "to")))) (j9 (dOp (pIs true) (n8 J3 (b0 (dOp pIx (b9 0) (dC (.int 3))) d2)) (dC .non)))) (dC (.str "if")) (dC .non))) j2)
  (j8 (dC .non)))))
theorem c0c:inF (.str "dye") [.str "dye",.str "wash",.str "return"]=true:=by decide +kernel
theorem c0l:inF (.str "wash") [.str "dye",.str "wash",.str "return"]=true:=by decide +kernel
theorem b9Y:inF (.str "return") [.str "dye",.str "wash",.str "return"]=true:=by decide +kernel
theorem b9O:inF (.str "to") [.str "dye",.str "wash",.str "return"]=false:=by decide +kernel
def a3L:DSp:=fun ds h Q=>∃ (ws vs:List Str) (gv:List Nat) (many:Nat) (r:Rw),ds=[.lst ((l7 ws vs r).map .str)]/\NG vs/\many <= 9/\L6 ws vs gv many r/\((∃ x,r = .dye x)\/(∃ x,r = .wash x)\/(∃ x,r = .ret x)\/(∃ q,r = .to q)\/∃ x q,r = .ifq x q)/\Q (.str (y3 r)) h
theorem b1q:∀ ds h Q,a3L ds h Q->m4 1 a6q ds h Q:=by
 rintro ds h Q ⟨ws,vs,gv,many,r,rfl,hv,hm,hg,hr,q⟩
 have nm:∀ x ∈ d8 r,isN (vn vs x)=true:=fun x hx=>hv _ (F1 (hg.1 x hx));delta m4 a6q;simp only [VS];left
 rcases hr with ⟨x,rfl⟩ | ⟨x,rfl⟩ | ⟨x,rfl⟩ | ⟨t,rfl⟩ | ⟨x,t,rfl⟩
 ·have hx:=nm x (by simp [d8]);simp only [l7,q22,c0c,VV];refine ⟨by decide +kernel,_,_,rfl,(u0 hx).1,by decide,?_⟩;rw [hx];simp only [VV];exact q
 ·have hx:=nm x (by simp [d8]);simp only [l7,q22,c0l,VV];refine ⟨by decide +kernel,_,_,rfl,(u0 hx).1,by decide,?_⟩;rw [hx];simp only [VV];exact q
 ·have hx:=nm x (by simp [d8]);simp only [l7,q22,b9Y,VV];refine ⟨by decide +kernel,_,_,rfl,(u0 hx).1,by decide,?_⟩;rw [hx];simp only [VV];exact q
 ·have ht:t < many:=hg.2.2;have tn:t + 1 < 10 ^ 18:=by right
  simp only [l7,q22,b9O,VV];refine ⟨by decide +kernel,?_⟩;subst hN;left;simp only [q22,VV];refine ⟨_,_,rfl,(B4 tn).1,by decide,?_⟩;rw [J7 tn];exact q
 ·have ht:t < many:=hg.2.2;have tn:t + 1 < 10 ^ 18:=by right
  have hx:=nm x (by simp [d8]);simp only [l7,q42,VV];subst hN;left;simp only [q42,VV];subst hN;left;simp only [q44,VV];refine ⟨_,_,rfl,(u0 hx).1,by decide,?_⟩;rw [hx];simp only [VV];refine ⟨_,_,rfl,(B4 tn).1,by decide,?_⟩;rw [J7 tn];exact q
theorem b4Y{f:Addr}{fd:FuncData}(F:Fun K "sort_of_deed" "sort_of_deed" a6h f fd)(T:Txt P w K mg)(C_q20:Cal P w K mg base 2 "is_name" ["text"] (spD K 1 C2))(C_q24:Cal P w K mg base 2 "number_of" ["text"] (spD K 1 J3)):t8 P w K mg base CX0 3 f fd ["words"] (spD K 1 a3L) :=
 x0 (k:=2) (b:=a6q) F b4E (fun cdv A outer s H E hr=>by
  refine c7 ?_ ?_
  ·refine m7 ?_ (c8 (i6 (d4 d3 (sv 0) b7))) i5;exact F7 (u8 (g9 (j6 hr.units) (i7 m6 rfl T.b_len PySem.boot_len (a9 (sv 0) c6)) b7) (u8 (g9 a6M (d4 d3 (sv 0) b7) (o6 (a9 d6 (a9 d6 (a9 d6 c6)))) rfl) (y7 (o0 (h7 C_q20 (hr.mono (by decide)) rfl (a9 (d4 d3 (sv 0) b7) c6))))))
  refine c7 ?_ ?_
  ·refine m7 ?_ (c8 (i6 d6)) i5;exact F7 (u8 (g9 (j6 hr.units) (i7 m6 rfl T.b_len PySem.boot_len (a9 (sv 0) c6)) b7) (u8 (g9 (j6 hr.units) (d4 d3 (sv 0) b7) d6) (y7 (g9 X1 (h7 C_q24 (hr.mono (by decide)) rfl (a9 (d4 d3 (sv 0) b7) c6)) F2))))
  refine c7 ?_ (c8 (i6 F2));refine m7 ?_ ?_ i5
  ·exact F7 (u8 (g9 (j6 hr.units) (i7 m6 rfl T.b_len PySem.boot_len (a9 (sv 0) c6)) b7) (u8 (g9 (j6 hr.units) (d4 d3 (sv 0) b7) d6) (y7 (o0 (h7 C_q20 (hr.mono (by decide)) rfl (a9 (d4 d3 (sv 0) b7) c6))))))
  refine c8 ?_;refine i6 ?_;exact a7g (F7 (u8 (g9 (j6 hr.units) (d4 d3 (sv 0) b7) d6) (y7 (g9 X1 (h7 C_q24 (hr.mono (by decide)) rfl (a9 (d4 d3 (sv 0) b7) c6)) F2)))) d6 F2) b1q
def a6D:DS:=(d9 (m5 (F5 (j9 (dOp pGt (dCB v9 (b0 (b9 0) d2)) (dC (.int 1)))) (j9 (dOp (pEq false) (dOp pIx (b9 0) (dC (.int 1))) (dC (.str "="))))) (j8 (dIf (dTr (n8 C2 (b0 (dOp pIx (b9 0) (dC (.int 0))) d2))) (n8 a3S (b0 (dSl (b9 0) (D2 (dC (.int 2))) u9) d2)) (dC .non))) j2)
  (j8 (n8 a3L (b0 (b9 0) d2))))
def a3e:DSp:=fun ds h Q=>∃ (ws vs:List Str) (gv:List Nat) (many:Nat) (r:Rw),ds=[.lst ((l7 ws vs r).map .str)]/\NG ws/\NG vs/\many <= 9/\L6 ws vs gv many r/\Q (.str (y3 r)) h
theorem b0w:∀ ds h Q,a3e ds h Q->m4 1 a6D ds h Q:=by
 rintro ds h Q ⟨ws,vs,gv,many,r,rfl,hw,hv,hm,hg,q⟩
 have nm:∀ x ∈ d8 r,isN (vn vs x)=true:=fun x hx=>hv _ (F1 (hg.1 x hx));have sk:∀ x ∈ d8 r,PyData.strOk (vn vs x)=true:=fun x hx=>(u0 (nm x hx)).1.1;have ne:∀ x ∈ d8 r,(vn vs x == Str.ofString "=")=false:=fun x hx=>b1z (nm x hx);have c2:∀ (a b:D) (xs:List D),E8 (a :: b :: xs) (some 2) none=xs:=fun a b xs=>O8 (a :: b :: xs) 2 (by simp);have g2:(1:Int) < ((2:Nat):Int):=by decide
 have g4:(1:Int) < ((4:Nat):Int):=by decide
 have g3:(1:Int) < ((3:Nat):Int):=by decide
 have g5:(1:Int) < ((5:Nat):Int):=by decide
 have gn:∀ n:Nat,(1:Int) < ((n + 1 + 1 + 1 + 1:Nat):Int):=fun n=>by right
 delta m4 a6D;simp only [VS];left
 cases r with
 |num x k =>
  have hx:=nm x (by simp [d8]);simp only [l7,M8,c2,g3,VV];refine ⟨_,_,rfl,(u0 hx).1,by decide,?_⟩;rw [hx];simp only [VV];exact ⟨ws,vs,gv,many,_,rfl,hw,hv,hg,.inl ⟨_,_,rfl⟩,q⟩
 |copy x y =>
  have hx:=nm x (by simp [d8]);simp only [l7,M8,c2,g3,VV];refine ⟨_,_,rfl,(u0 hx).1,by decide,?_⟩;rw [hx];simp only [VV];exact ⟨ws,vs,gv,many,_,rfl,hw,hv,hg,.inr (.inl ⟨_,_,rfl⟩),q⟩
 |does x o y z =>
  have hx:=nm x (by simp [d8]);simp only [l7,M8,c2,g5,VV];refine ⟨_,_,rfl,(u0 hx).1,by decide,?_⟩;rw [hx];simp only [VV];exact ⟨ws,vs,gv,many,_,rfl,hw,hv,hg,.inr (.inr (.inl ⟨_,_,_,_,rfl⟩)),q⟩
 |call x g ys =>
  have hx:=nm x (by simp [d8]);simp only [l7,M8,c2,gn,E6,a6o,VV];refine ⟨_,_,rfl,(u0 hx).1,by decide,?_⟩;rw [hx];simp only [VV];exact ⟨ws,vs,gv,many,_,rfl,hw,hv,hg,.inr (.inr (.inr ⟨_,_,_,rfl⟩)),q⟩
 |to t =>
  have ht:t < many:=hg.2.2;have tn:t + 1 < 10 ^ 18:=by right
  simp only [l7,M8,b8x tn b8n,(B4 tn).1.1,g2,VV];subst hN;simp only [VV];exact ⟨ws,vs,gv,many,_,rfl,hv,hm,hg,.inr (.inr (.inr (.inl ⟨_,rfl⟩))),q⟩
 |ifq x t =>
  have hsk:=sk x (by simp [d8]);have hne:=ne x (by simp [d8]);simp only [l7,M8,g4,hsk,hne,VV];subst hN;simp only [VV];exact ⟨ws,vs,gv,many,_,rfl,hv,hm,hg,.inr (.inr (.inr (.inr ⟨_,_,rfl⟩))),q⟩
 |dye x =>
  have hsk:=sk x (by simp [d8]);have hne:=ne x (by simp [d8]);simp only [l7,M8,g2,hsk,hne,VV];subst hN;simp only [VV];exact ⟨ws,vs,gv,many,_,rfl,hv,hm,hg,.inl ⟨_,rfl⟩,q⟩
 |wash x =>
  have hsk:=sk x (by simp [d8]);have hne:=ne x (by simp [d8]);simp only [l7,M8,g2,hsk,hne,VV];subst hN;simp only [VV];exact ⟨ws,vs,gv,many,_,rfl,hv,hm,hg,.inr (.inl ⟨_,rfl⟩),q⟩
 |ret x =>
  have hsk:=sk x (by simp [d8]);have hne:=ne x (by simp [d8]);simp only [l7,M8,g2,hsk,hne,VV];subst hN;simp only [VV];exact ⟨ws,vs,gv,many,_,rfl,hv,hm,hg,.inr (.inr (.inl ⟨_,rfl⟩)),q⟩
theorem b3A{f:Addr}{fd:FuncData}(F:Fun K "sort_of" "sort_of" a7w f fd)(T:Txt P w K mg)(C_q20:Cal P w K mg base 2 "is_name" ["text"] (spD K 1 C2))(C_q30:Cal P w K mg base 3 "sort_of_value" ["words"] (spD K 1 a3S))(C_q29:Cal P w K mg base 3 "sort_of_deed" ["words"] (spD K 1 a3L)):t8 P w K mg base CX0 4 f fd ["words"] (spD K 1 a3e) :=
 x0 (k:=3) (b:=a6D) F b6A (fun cdv A outer s H E hr=>by
  refine c7 ?_ (c8 (i6 (h7 C_q29 (hr.mono (by decide)) rfl (a9 (sv 0) c6))));refine m7 ?_ ?_ i5
  ·exact F7 (u8 (g9 a0s (i7 m6 rfl T.b_len PySem.boot_len (a9 (sv 0) c6)) b7) (y7 (g9 (j6 hr.units) (d4 d3 (sv 0) b7) d6)))
  refine c8 ?_;refine i6 ?_;exact a7g (o0 (h7 C_q20 (hr.mono (by decide)) rfl (a9 (d4 d3 (sv 0) b7) c6))) (h7 C_q30 (hr.mono (by decide)) rfl (a9 (G2 (sv 0) (w9 b7) y0) c6)) F2) b0w
def a8i:DS:=(d9 (j7 (dTk (O5 (b0 (b9 0) d2))) (d5 2))
  (d9 (C9 (t9 (b9 1)) (d5 3) (m5 (j9 (dOp (pIn true) (b9 3) (b9 2))) (v8 (q8 (b9 2) (b0 (b9 3) d2))) j2))
  (j8 (b9 2))))
def more:List Str->List Str->List Str
 |vs,[]=>vs
 |vs,n :: ns=>more (if n ∈ vs then vs else vs ++ [n]) ns
def a3b:DSp:=fun ds h Q=>∃ (a:D) (vs ns:List Str),ds=[a,.lst (ns.map .str)]/\A2 h a=some (vs.map .str)/\(∀ v ∈ vs,PyData.strOk v=true)/\(∀ v ∈ ns,PyData.strOk v=true)/\vs.length <= 100/\ns.length <= 100/\Q (.lst ((more vs ns).map .str)) h
theorem W3:∀ (ns:List Str) (vs:List Str) (n:Str),more vs (ns ++ [n])=if n ∈ more vs ns then more vs ns else more vs ns ++ [n]
 |[],vs,n=>rfl
 |m :: ns,vs,n=>W3 ns _ n
theorem a1C:∀ (ns vs:List Str),(more vs ns).length <= vs.length + ns.length
 |[],vs=>Nat.le_refl _
 |n :: ns,vs=>by
  have:=a1C ns (if n ∈ vs then vs else vs ++ [n])
  have h2:(if n ∈ vs then vs else vs ++ [n]).length <= vs.length + 1:=by split <;> simp
  show (more (if n ∈ vs then vs else vs ++ [n]) ns).length <= _;rw [List.length_cons];omega
theorem a6U:∀ {ns vs:List Str} {v:Str},v ∈ more vs ns->v ∈ vs\/v ∈ ns
 |[],vs,v,h=>.inl h
 |n :: ns,vs,v,h=>by
  rcases a6U (ns:=ns) h with q | q
  ·split at q
   ·exact .inl q
   ·rcases List.mem_append.mp q with z | z
    ·exact .inl z
    ·exact .inr (by rw [List.mem_singleton.mp z];exact List.mem_cons_self)
  ·exact .inr (List.mem_cons_of_mem _ q)
theorem a0Z(x:Str)(vs:List Str):inF (.str x) (vs.map D.str)=decide (x ∈ vs):=by
 unfold inF;rw [List.any_map,Bool.eq_iff_iff,List.any_eq_true,decide_eq_true_iff]
 constructor
 ·rintro ⟨y,hy,e⟩
  have e:y=x:=by simpa [eqF] using e
  rw [<- e];exact hy
 ·intro h;exact ⟨x,h,by simp [eqF]⟩
theorem b1o:∀ ds h Q,a3b ds h Q->m4 4 a8i ds h (Dr h Q):=by
 rintro ds h Q ⟨a,vs,ns,rfl,ha,sv,sn,lv,ln,q⟩
 delta m4 a8i;simp only [VS];left;simp only [Y0 ha,VV];subst hN;left;simp only [VV];refine n6 (fun p δ h'=>∃ x3:Option D,δ=[some a,some (.lst (ns.map .str)),some (.ref h.length),x3]/\h'=h ++ [.lst ((more vs p).map .str)]) ⟨none,rfl,rfl⟩ (fun _ _ _ _=>Src.ok_nil) ?_ ?_
 ·rintro p n r δ h' N1 e ⟨x3,rfl,rfl⟩ hN1
  have pl:p.length < ns.length:=by rw [e];simp
  have ml:=a1C p vs;have hn:=sn n (by rw [e];simp);have lo:B6 (h ++ [O.lst ((more vs p).map D.str)]) (.ref h.length)=some ((more vs p).map D.str):=Y0 (G3 _ _);simp only [lo,a0Z,VV];refine ⟨by rw [List.all_map];exact List.all_eq_true.mpr fun _ _=>rfl,?_⟩
  by_cases z:n ∈ more vs p
  ·simp only [z,VV];exact hN1 _ _ ⟨_,rfl,by rw [W3,if_pos z]⟩
  ·simp only [z,o5,p8,List.length_map,VV];exact ⟨by right,hN1 _ _ ⟨_,rfl,by rw [W3,if_neg z,List.map_append];rfl⟩⟩
 ·rintro δ h' ⟨x3,rfl,rfl⟩
  subst hN;simp only [VV]
  have:=Dr.dropL (h:=h) (Q:=Q) (xs:=(more vs ns).map D.str) (g1:=[]) (g2:=[]) (k:=h.length) (p7 (fun _=>rfl) _) (by simp) q
  simpa using this
theorem b5a{f:Addr}{fd:FuncData}(F:Fun K "with_more" "with_more" a8q f fd)(T:Txt P w K mg):t8 P w K mg base CX0 1 f fd ["variables","names"] (spD K 2 a3b) :=
 B8 (k:=0) (b:=a8i) F sc_q33 (fun cdv A outer s H E hr=>by
  refine c7 ?_ ?_
  ·exact i9 (i:=2) sc_q33.nd rfl (Or.inl rfl) (J4 (U4 rfl T.b_list (a9 (sv 0) c6)))
  refine c7 ?_ (c8 (i6 (sv 2)));refine z4 PassesOwn.never rfl (o9 (sv 1)) (h6 (i:=3) sc_q33.nd rfl (Or.inl rfl)) ?_;refine c8 ?_;exact m7 (g9 P6 (sv 3) (sv 2) rfl) (c8 (s9 (n9 (sv 2) (a9 (sv 3) c6)))) i5) b1o
def a5R:DS:=(d9 (m5 (j9 (dOp (pEq false) (b9 0) (dC (.str "call")))) (j8 (dOp m3 (dSl (b9 1) u9 (D2 (dC (.int 1)))) (dSl (b9 1) (D2 (dC (.int 4))) u9))) j2)
  (j8 (dV (u5 [none] (t9 (b9 1)) (d5 0) (dTr (n8 C2 (b0 (b9 0) d2))) (b9 0)))))
theorem b9s{y:Str}(h:y ∈ kept):isN y=false:=by
 unfold isN;rw [show (kept.any fun z=>z == y)=true from List.any_eq_true.mpr ⟨y,h,beq_self_eq_true y⟩]
 simp
theorem a2z:isN (Str.ofString "=")=false:=by decide +kernel
theorem tok_eq:TOk (Str.ofString "=") 8:=by decide +kernel
theorem tok_if:TOk (Str.ofString "if") 8:=by decide +kernel
theorem tok_to:TOk (Str.ofString "to") 8:=by decide +kernel
theorem tok_dye:TOk (Str.ofString "dye") 8:=by decide +kernel
theorem tok_wash:TOk (Str.ofString "wash") 8:=by decide +kernel
theorem tok_ret:TOk (Str.ofString "return") 8:=by decide +kernel
theorem a4L{ws vs:List Str}{gv:List Nat}{many:Nat}{r:Rw}(hv:NG vs)(hm:many <= 9)(hg:L6 ws vs gv many r)(hc:∀ x g ys,r ≠ .call x g ys):(∀ s ∈ l7 ws vs r,TOk s 18)/\(l7 ws vs r).filter isN=(d8 r).map (vn vs):=by
 have nm:∀ x ∈ d8 r,isN (vn vs x)=true:=fun x hx=>hv _ (F1 (hg.1 x hx));have tk:∀ x ∈ d8 r,TOk (vn vs x) 18:=fun x hx=>(u0 (nm x hx)).1.up (by decide);have kd:isN (Str.ofString "dye")=false:=by decide +kernel
 have kw:isN (Str.ofString "wash")=false:=by decide +kernel
 have kr:isN (Str.ofString "return")=false:=by decide +kernel
 have ki:isN (Str.ofString "if")=false:=by decide +kernel
 have kt:isN (Str.ofString "to")=false:=by decide +kernel
 cases r with
 |call x g ys=>exact absurd rfl (hc x g ys)
 |num x k =>
  have kn:k.toNat < 10 ^ 18:=by have:=hg.2.2;have h1:0 <= k/\k < 10 ^ 18:=this;omega
  refine ⟨fun s hs=>?_,?_⟩
  ·simp only [l7,List.mem_cons,List.not_mem_nil,or_false] at hs
   rcases hs with rfl | rfl | rfl
   ·exact tk x (by simp [d8])
   ·exact tok_eq.up (by decide)
   ·exact (B4 kn).1
  ·simp only [l7,List.filter_cons,nm x (by simp [d8]),a2z,(B4 kn).2.1,List.filter_nil,d8,List.map_cons,List.map_nil];rfl
 |copy x y =>
  refine ⟨fun s hs=>?_,?_⟩
  ·simp only [l7,List.mem_cons,List.not_mem_nil,or_false] at hs
   rcases hs with rfl | rfl | rfl
   ·exact tk x (by simp [d8])
   ·exact tok_eq.up (by decide)
   ·exact tk y (by simp [d8])
  ·simp only [l7,List.filter_cons,nm x (by simp [d8]),nm y (by simp [d8]),a2z,List.filter_nil,d8,List.map_cons,List.map_nil];rfl
 |does x o y z =>
  have ho:o ∈ W0:=hg.2.2;refine ⟨fun s hs=>?_,?_⟩
  ·simp only [l7,List.mem_cons,List.not_mem_nil,or_false] at hs
   rcases hs with rfl | rfl | rfl | rfl | rfl
   ·exact tk x (by simp [d8])
   ·exact tok_eq.up (by decide)
   ·exact tk y (by simp [d8])
   ·exact (a8k ho).1.up (by decide)
   ·exact tk z (by simp [d8])
  ·simp only [l7,List.filter_cons,nm x (by simp [d8]),nm y (by simp [d8]),nm z (by simp [d8]),(a8k ho).2.1,a2z,List.filter_nil,d8,List.map_cons,List.map_nil];rfl
 |to t =>
  have tn:t + 1 < 10 ^ 18:=by have:t < many:=hg.2.2;omega
  refine ⟨fun s hs=>?_,?_⟩
  ·simp only [l7,List.mem_cons,List.not_mem_nil,or_false] at hs
   rcases hs with rfl | rfl
   ·exact tok_to.up (by decide)
   ·exact (B4 tn).1
  ·simp only [l7,List.filter_cons,kt,(B4 tn).2.1,List.filter_nil,d8,List.map_nil];rfl
 |ifq x t =>
  have tn:t + 1 < 10 ^ 18:=by have:t < many:=hg.2.2;omega
  refine ⟨fun s hs=>?_,?_⟩
  ·simp only [l7,List.mem_cons,List.not_mem_nil,or_false] at hs
   rcases hs with rfl | rfl | rfl | rfl
   ·exact tok_if.up (by decide)
   ·exact tk x (by simp [d8])
   ·exact tok_to.up (by decide)
   ·exact (B4 tn).1
  ·simp only [l7,List.filter_cons,nm x (by simp [d8]),ki,kt,(B4 tn).2.1,List.filter_nil,d8,List.map_cons,List.map_nil];rfl
 |dye x =>
  refine ⟨fun s hs=>?_,?_⟩
  ·simp only [l7,List.mem_cons,List.not_mem_nil,or_false] at hs
   rcases hs with rfl | rfl
   ·exact tok_dye.up (by decide)
   ·exact tk x (by simp [d8])
  ·simp only [l7,List.filter_cons,nm x (by simp [d8]),kd,List.filter_nil,d8,List.map_cons,List.map_nil];rfl
 |wash x =>
  refine ⟨fun s hs=>?_,?_⟩
  ·simp only [l7,List.mem_cons,List.not_mem_nil,or_false] at hs
   rcases hs with rfl | rfl
   ·exact tok_wash.up (by decide)
   ·exact tk x (by simp [d8])
  ·simp only [l7,List.filter_cons,nm x (by simp [d8]),kw,List.filter_nil,d8,List.map_cons,List.map_nil];rfl
 |ret x =>
  refine ⟨fun s hs=>?_,?_⟩
  ·simp only [l7,List.mem_cons,List.not_mem_nil,or_false] at hs
   rcases hs with rfl | rfl
   ·exact tok_ret.up (by decide)
   ·exact tk x (by simp [d8])
  ·simp only [l7,List.filter_cons,nm x (by simp [d8]),kr,List.filter_nil,d8,List.map_cons,List.map_nil];rfl
def Z6:DSp:=fun ds h Q=>∃ (ws vs:List Str) (gv:List Nat) (many:Nat) (r:Rw),ds=[.str (y3 r),.lst ((l7 ws vs r).map .str)]/\NG ws/\NG vs/\many <= 9/\L6 ws vs gv many r/\Q (.lst (((d8 r).map (vn vs)).map .str)) h
theorem b0h:∀ ds h Q,Z6 ds h Q->m4 2 a5R ds h Q:=by
 rintro ds h Q ⟨ws,vs,gv,many,r,rfl,hw,hv,hm,hg,q⟩
 delta m4 a5R;simp only [VS];left
 by_cases hc:∃ x g ys,r = .call x g ys
 ·obtain ⟨x,g,ys,rfl⟩:=hc;have h2:ys.length + 1 <= 10:=hg.2.1
  have k1:∀ (a b c d:D) (xs:List D),E8 (a :: b :: c :: d :: xs) none (some 1)=[a]:=fun a b c d xs=>by
   unfold E8
   rw [show HT.sIx (a :: b :: c :: d :: xs).length 0 none=0 from rfl,show HT.sIx (a :: b :: c :: d :: xs).length (a :: b :: c :: d :: xs).length (some 1)=1 by
    have:=HT.sIx_nat (a :: b :: c :: d :: xs).length (a :: b :: c :: d :: xs).length 1
    rw [show (1:Int)=((1:Nat):Int) from rfl,this];simp]
   rfl
  have k4:∀ (a b c d:D) (xs:List D),E8 (a :: b :: c :: d :: xs) (some 4) none=xs:=fun a b c d xs=>O8 (a :: b :: c :: d :: xs) 4 (by simp);simp only [y3,l7,k1,k4,List.length_map,VV];exact ⟨by right,q⟩
 ·have hc':∀ x g ys,r ≠ .call x g ys:=fun x g ys e=>hc ⟨x,g,ys,e⟩;obtain ⟨tk,fl⟩:=a4L hv hm hg hc'
  have go:N [some (.str (y3 r)),some (.lst ((l7 ws vs r).map .str))] h:=by
   subst hN;simp only [List.length_map,VV]
   have l20:(l7 ws vs r).length <= 20:=by
    cases r with
    |call x g ys=>exact absurd rfl (hc' x g ys)
    |_=>simp [l7]
   refine ⟨by right,?_⟩;refine a5N (fun s=>isN s) D.str Src.ok_nil none (fun s hs K kk=>?_) (fun s hs _ K kk=>?_) ?_
   ·simp only [VV];refine ⟨_,_,rfl,tk s hs,by decide,?_⟩;simp only [VV];exact kk
   ·simp only [VV];exact kk
   ·rw [fl];exact q
  cases r with
  |call x g ys=>exact absurd rfl (hc' x g ys)
  |_=>simp only [y3,VV];exact go
theorem b5C{f:Addr}{fd:FuncData}(F:Fun K "variables_in" "variables_in" a8n f fd)(T:Txt P w K mg)(C_q20:Cal P w K mg base 2 "is_name" ["text"] (spD K 1 C2)):t8 P w K mg base CX0 3 f fd ["sort","words"] (spD K 2 Z6) :=
 x0 (k:=2) (b:=a5R) F b5P (fun cdv A outer s H E hr=>by
  refine c7 ?_ ?_
  ·refine m7 (g9 (j6 hr.units) (sv 0) d6) ?_ i5;refine c8 ?_;refine i6 ?_;exact d7 j0 (G2 (sv 1) y0 (w9 b7)) (G2 (sv 1) (w9 b7) y0)
  refine c8 ?_;refine i6 ?_;refine p4 ?_;exact p9 rfl (N':= ["word"]) (js:=[none]) ⟨rfl,by decide +kernel,rfl,rfl,rfl⟩ (o9 (sv 1)) (fun s0 H0 fp=>⟨(h6 (i:=0) (show (["word"]:List Str).Nodup by decide +kernel) rfl (Or.inl rfl)),(a7G (o0 (h7 C_q20 (hr.mono (by decide)) rfl (a9 (sv 0) c6)))),(sv 0)⟩)) b0h
def a5E:DS:=(d9 (m5 (dOr (j9 (dOp (pEq false) (b9 2) (dC (.str "if")))) (j9 (dOp (pEq false) (b9 2) (dC (.str "to"))))) (j8 (K2 pLe pLe (dC (.int 1)) (n8 J3 (b0 (dOp pIx (b9 3) (dUn a1G (dC (.int 1)))) d2)) (b9 1))) j2)
  (d9 (m5 (j9 (dOp (pEq false) (b9 2) (dC (.str "call")))) (j8 (F8 (dOp (b8P false) (dOp pIx (b9 3) (dC (.int 3))) (b9 0)) (dOp (pEq false) (dOp pIx (a3T (b9 0) (dOp pIx (b9 3) (dC (.int 3)))) (dC (.int 1))) (dOp T6 (dCB v9 (b0 (b9 3) d2)) (dC (.int 4)))))) j2)
  (j8 (dC (.bl true)))))
def hdK(ws:List Str)(gv:List Nat):List (Key×D):=(ws.zip gv).zipIdx.map fun x=>(Sum.inr x.1.1,.tup [nD x.2,nD x.1.2])
theorem a2l{ws:List Str}{gv:List Nat}(nd:ws.Nodup)(hl:gv.length=ws.length){g k:Nat}{w:Str}(h1:ws[g]?=some w)(h2:gv[g]?=some k):a1r (hdK ws gv) (.inr w)=some (.tup [nD g,nD k]):=by
 have gl:=(List.getElem?_eq_some_iff.mp h1).1
 have e:(hdK ws gv)[g]?=some (Sum.inr w,.tup [nD g,nD k]):=by
  unfold hdK;rw [List.getElem?_map,List.getElem?_zipIdx,List.getElem?_zip_eq_some (z:=(w,k)) |>.mpr ⟨h1,h2⟩]
  simp
 unfold a1r
 have fd:(hdK ws gv).find? (fun kv=>decide (kv.1=(Sum.inr w:Key)))=some (Sum.inr w,.tup [nD g,nD k]):=by
  rw [List.find?_eq_some_iff_getElem];obtain ⟨l1,g1⟩:=List.getElem?_eq_some_iff.mp e;refine ⟨by simp,g,l1,g1,fun j hj=>?_⟩;have jl:j < (hdK ws gv).length:=by right
  have jw:j < ws.length:=by right
  have ej:(hdK ws gv)[j]?=some (Sum.inr ws[j],.tup [nD j,nD (gv[j]'(by right))]):=by
   unfold hdK;rw [List.getElem?_map,List.getElem?_zipIdx,List.getElem?_zip_eq_some (z:=(ws[j],gv[j]'(by right))) |>.mpr ⟨List.getElem?_eq_getElem jw,List.getElem?_eq_getElem (by right)⟩]
   simp
  obtain ⟨_,gj⟩:=List.getElem?_eq_some_iff.mp ej;rw [gj];simp only [decide_eq_true_eq,Bool.not_eq_true',decide_eq_false_iff_not];intro z;have z:ws[j]=w:=Sum.inr.inj z;obtain ⟨_,gw⟩:=List.getElem?_eq_some_iff.mp h1
  have:=(List.getElem_inj (h₀:=jw) (h₁:=gl) nd).mp (z.trans gw.symm)
  omega
 rw [fd];rfl
theorem U2{h:Hh}{i:Nat}{kvs:List (Key×D)}{s:Str}{Q:Option D->Prop}(hi:h[i]?=some (.dK kvs))(q:Q (a1r kvs (.inr s))):a4s (.ref i) (.str s) h Q:=by
 unfold a4s;dsimp only;rw [hi];exact ⟨s,rfl,q⟩
theorem le1(t:Nat):(1:Int) <= ((t + 1:Nat):Int):=by right
def a3J:DSp:=fun ds h Q=>∃ (i:Nat) (ws vs:List Str) (gv:List Nat) (many:Nat) (r:Rw),ds=[.ref i,nD many,.str (y3 r),.lst ((l7 ws vs r).map .str)]/\h[i]?=some (.dK (hdK ws gv))/\ws.Nodup/\gv.length=ws.length/\many <= 9/\L6 ws vs gv many r/\Q (.bl true) h
theorem b0r:∀ ds h Q,a3J ds h Q->m4 4 a5E ds h Q:=by
 rintro ds h Q ⟨i,ws,vs,gv,many,r,rfl,hi,nd,gl,hm,hg,q⟩
 delta m4 a5E;simp only [VS];left
 cases r with
 |to t =>
  have ht:t < many:=hg.2.2;have tn:t + 1 < 10 ^ 18:=by right
  have m1:∀ a b:D,atI [a,b] (-1)=some b:=fun _ _=>rfl;have l2:((t + 1:Nat):Int) <= (many:Int):=by right
  simp only [y3,l7,m1,VV];refine ⟨_,_,rfl,(B4 tn).1,by decide,?_⟩;rw [J7 tn];simp only [nuD,le1,l2,pLe,VV];exact q
 |ifq x t =>
  have ht:t < many:=hg.2.2;have tn:t + 1 < 10 ^ 18:=by right
  have m1:∀ a b c d:D,atI [a,b,c,d] (-1)=some d:=fun _ _ _ _=>rfl;have l2:((t + 1:Nat):Int) <= (many:Int):=by right
  simp only [y3,l7,m1,VV];refine ⟨_,_,rfl,(B4 tn).1,by decide,?_⟩;rw [J7 tn];simp only [nuD,le1,l2,pLe,VV];exact q
 |call x g ys =>
  obtain ⟨_,_,g1,g2⟩:=hg;have hgw:ws[g]?=some (vn ws g):=by unfold vn;rw [List.getD_eq_getElem?_getD,List.getElem?_eq_getElem g1];rfl
  have hv:=a2l nd gl hgw g2
  have e4:((ys.length:Int) == (((List.map D.str (List.map (vn vs) ys)).length + 1 + 1 + 1 + 1:Nat):Int) - 4)=true:=by
   rw [List.length_map,List.length_map];exact beq_iff_eq.mpr (by right)
  simp only [y3,l7,VV];subst hN;left;simp only [b3k,VV];refine U2 hi ?_;rw [hv];refine W7 (U2 hi ?_);rw [hv];refine ⟨_,rfl,?_⟩;simp only [e4,VV];exact q
 |_=>simp only [y3,VV];subst hN;left;simp only [VV];subst hN;simp only [VV];exact q
theorem b6g{f:Addr}{fd:FuncData}(F:Fun K "is_there" "is_there" a7U f fd)(T:Txt P w K mg)(C_q24:Cal P w K mg base 2 "number_of" ["text"] (spD K 1 J3)):t8 P w K mg base CX0 3 f fd ["heads","rows","sort","words"] (spD K 4 a3J) :=
 x0 (k:=2) (b:=a5E) F b3W (fun cdv A outer s H E hr=>by
  refine c7 ?_ ?_
  ·refine m7 ?_ ?_ i5
   ·exact F7 (S5 (g9 (j6 hr.units) (sv 2) d6) (M6 (g9 (j6 hr.units) (sv 2) d6)))
   refine c8 ?_;refine i6 ?_;exact Y3 M3 M3 b7 (h7 C_q24 (hr.mono (by decide)) rfl (a9 (d4 d3 (sv 3) (W8 M7 b7)) c6)) (sv 1)
  refine c7 ?_ (c8 (i6 T3));refine m7 (g9 (j6 hr.units) (sv 2) d6) ?_ i5;refine c8 ?_;refine i6 ?_;exact C0 (y4 (b6y hr.units) (d4 d3 (sv 3) b7) (sv 0) rfl) (X8 (y4 (j6 hr.units) (d4 d3 (a0W hr.units (sv 0) (d4 d3 (sv 3) b7)) b7) (d7 H9 (i7 m6 rfl T.b_len PySem.boot_len (a9 (sv 3) c6)) b7)))) b0r
def a6I:DS:=(d9 (j7 (dTk d2) (d5 1))
  (d9 (C9 (a3x (b0 (dV (a2H (b9 0) (b0 (dC (.str "\n")) d2))) d2)) (V0 2 (p6 (d5 2) (p6 (d5 3) K5))) (d9 (j7 (dV (u5 [none] (t9 (dV (a2H (b9 3) (b0 (dC (.str " ")) d2)))) (d5 0) (j9 (dOp (pEq true) (b9 0) (dC (.str "")))) (b9 0))) (d5 4))
  (m5 (j9 (dOp pGt (dCB v9 (b0 (b9 4) d2)) (dC (.int 0)))) (v8 (q8 (b9 1) (b0 (A0 (b0 (b9 2) (b0 (b9 4) d2))) d2))) j2)))
  (j8 (b9 1))))
theorem S4{α:Type}{l:List α}{p:List (α×Nat)}{x:α}{i:Nat}{r:List (α×Nat)}(e:l.zipIdx=p ++ (x,i) :: r):i=p.length/\l[p.length]?=some x:=by
 have:l.zipIdx[p.length]?=some (x,i):=by rw [e];simp
 rw [List.getElem?_zipIdx] at this
 cases z:l[p.length]? with
 |none=>rw [z] at this;cases this
 |some y=>rw [z] at this;cases this;exact ⟨by simp,rfl⟩
theorem b7j:Str.ofString "\n" = ⟨#[10]⟩:=by decide +kernel
theorem b7Y:Str.ofString " " = ⟨#[32]⟩:=by decide +kernel
theorem em_is:cl (Str.ofString "")=[]:=by decide +kernel
theorem b7X:PyData.strOk (Str.ofString "")=true:=by decide +kernel
theorem a6X{c:Nat}:∀ {xs:List (List Nat)} {x:List Nat} {d:Nat},x ∈ xs->d ∈ x->d ∈ jn c xs
 |[a],x,d,h,hd=>by rw [List.mem_singleton.mp h] at hd;exact hd
 |a :: b :: r,x,d,h,hd=>by
  show d ∈ a ++ c :: jn c (b :: r)
  rcases List.mem_cons.mp h with rfl | h
  ·exact List.mem_append_left _ hd
  ·exact List.mem_append_right _ (List.mem_cons_of_mem _ (a6X h hd))
theorem a3r{x p:Str}{c:Nat}(h:p ∈ Txt.split x ⟨#[c]⟩):(∀ d ∈ cl p,d ∈ cl x)/\p.length <= x.length:=by
 have e:=congrArg cl (StrLaws.join_split x ⟨#[c]⟩);rw [D9] at e;have m:∀ d ∈ cl p,d ∈ cl x:=fun d hd=>by rw [<- e];exact a6X (List.mem_map_of_mem h) hd
 refine ⟨m,?_⟩
 have l:∀ {xs:List (List Nat)} {y:List Nat},y ∈ xs->y.length <= (jn c xs).length:=by
  intro xs
  induction xs with
  |nil=>intro y h;exact nomatch h
  |cons a r ih =>
   intro y h
   cases r with
   |nil=>rw [List.mem_singleton.mp h];exact Nat.le_refl _
   |cons b r =>
    show y.length <= (a ++ c :: jn c (b :: r)).length;rw [List.length_append,List.length_cons]
    rcases List.mem_cons.mp h with rfl | h
    ·omega
    ·have:=ih h;omega
 rw [<- A6,<- A6,<- e];exact l (List.mem_map_of_mem h)
def wsS(t:Str):List Str:=(Txt.split t ⟨#[32]⟩).filter fun p=>decide (cl p ≠ [])
theorem a0C(t:Str):(wsS t).map cl=wds (cl t):=a1X t
def lnD(x:Nat×List Str):D:=.tup [nD x.1,.lst (x.2.map .str)]
def a3q:DSp:=fun ds h Q=>∃ ts:List Str,ds=[.str (Str.join ⟨#[10]⟩ ts)]/\ts ≠ []/\(∀ t ∈ ts,10 ∉ cl t/\PyData.strOk t=true)/\(Str.join ⟨#[10]⟩ ts).length <= 1000000/\ts.length <= 100000/\∀ lns:List (Nat×List Str),lns.map (·.2)=(ts.map wsS).filter (fun w=>decide (w ≠ []))->Q (.lst (lns.map lnD)) h
theorem b1d:∀ ds h Q,a3q ds h Q->m4 5 a6I ds h (Dr h Q):=by
 rintro ds h Q ⟨ts,rfl,ne,ok,tl,tn,q⟩
 have sp:=a1Y ne (fun t ht=>(ok t ht).1);have spl:∀ t ∈ ts,t ∈ Txt.split (Str.join ⟨#[10]⟩ ts) ⟨#[10]⟩:=fun t ht=>by rw [sp];exact ht
 delta m4 a6I;simp only [VS];left;simp only [VV];subst hN;left;have n1:((⟨#[10]⟩:Str).length == 0)=false:=rfl;simp only [b7j,n1,VV];rw [sp];refine ⟨trivial,tl,?_⟩;rw [C4];refine n6 (fun p δ h'=>∃ (lns:List (Nat×List Str)) (x2 x3 x4:Option D),δ=[some (.str (Str.join ⟨#[10]⟩ ts)),some (.ref h.length),x2,x3,x4]/\h'=h ++ [.lst (lns.map lnD)]/\lns.length <= p.length/\lns.map (·.2)=((p.map (·.1)).map wsS).filter (fun w=>decide (w ≠ []))) ⟨[],none,none,none,rfl,rfl,Nat.le_refl _,rfl⟩ (fun _ _ _ _=>Src.ok_nil) ?_ ?_
 ·rintro p ⟨t,i⟩ r δ h' N1 e ⟨lns,x2,x3,x4,rfl,rfl,ll,el⟩ hN1
  obtain ⟨hi,hti⟩:=S4 e;have ht:=List.mem_of_getElem? hti;have pl:p.length < ts.length:=(List.getElem?_eq_some_iff.mp hti).1;obtain ⟨_,tk⟩:=ok t ht;have tl2:=(a3r (spl t ht)).2;have n2:((⟨#[32]⟩:Str).length == 0)=false:=rfl;simp only [VV];refine ⟨trivial,?_⟩;left;simp only [b7Y,n2,VV];refine ⟨trivial,by right,?_⟩;refine ⟨by rw [List.length_map];exact (Z7 (by right)).2,?_⟩;refine a5N (fun s=>decide (cl s ≠ [])) D.str Src.ok_nil none (fun s hs K kk=>?_) (fun s hs _ K kk=>?_) ?_
  ·have so:PyData.strOk s=true:=(E1 s).mpr fun c hc=>(E1 t).mp tk c ((a3r hs).1 c hc)
   have e9:(s == Str.ofString "")=decide (cl s=[]):=by
    by_cases z:cl s=[]
    ·rw [decide_eq_true z,a6E (z.trans em_is.symm)];exact beq_self_eq_true _
    ·rw [decide_eq_false z];exact V7 (by rw [em_is];exact z)
   simp only [so,b7X,e9,VV]
   have:(!decide (cl s=[]))=decide (cl s ≠ []):=by simp
   rw [this];exact kk
  ·simp only [VV];exact kk
  show N [some (D.str (Str.join ⟨#[10]⟩ ts)),some (D.ref (List.length h)),some (D.int (1 + (i:Int))),some (D.str t),some (D.lst ((wsS t).map D.str))] (h ++ [O.lst (lns.map lnD)])
  have mp:(((p ++ [(t,i)]).map (·.1)).map wsS).filter (fun w=>decide (w ≠ []))=((p.map (·.1)).map wsS).filter (fun w=>decide (w ≠ [])) ++ if wsS t=[] then [] else [wsS t]:=by
   rw [List.map_append,List.map_append,List.filter_append]
   congr 1
   by_cases z:wsS t=[]
   ·simp [z]
   ·simp [z]
  subst hN
  by_cases z:wsS t=[]
  ·simp only [z,VV];exact hN1 _ _ ⟨lns,_,_,_,rfl,rfl,by simp;omega,by rw [mp,if_pos z,List.append_nil];exact el⟩
  ·have lp:(0:Int) < ((wsS t).length:Int):=by have:=List.length_pos_iff.mpr z;omega
   simp only [List.length_map,lp,o5,p8,VV];refine ⟨by right,hN1 _ _ ⟨lns ++ [(1 + i,wsS t)],_,_,_,rfl,?_,by simp;omega,by rw [mp,if_neg z,List.map_append,el];rfl⟩⟩;rw [List.map_append,show (1:Int) + (i:Int)=((1 + i:Nat):Int) by right];rfl
 ·rintro δ h' ⟨lns,x2,x3,x4,rfl,rfl,ll,el⟩
  subst hN;simp only [VV];rw [List.zipIdx_map_fst] at el
  have:=Dr.dropL (h:=h) (Q:=Q) (xs:=lns.map lnD) (g1:=[]) (g2:=[]) (k:=h.length) (p7 (fun x=>by show (true && (B0 (x.2.map D.str) && true))=true;rw [p7 (fun _=>rfl)];rfl) _) (by simp) (q lns el)
  simpa using this
theorem b6J{f:Addr}{fd:FuncData}(F:Fun K "lines_of" "lines_of" a8t f fd)(T:Txt P w K mg):t8 P w K mg base CX0 1 f fd ["text"] (spD K 1 a3q) :=
 B8 (k:=0) (b:=a6I) F sc_q23 (fun cdv A outer s H E hr=>by
  refine c7 ?_ ?_
  ·exact i9 (i:=1) sc_q23.nd rfl (Or.inl rfl) (J4 (j5 c6))
  refine c7 ?_ (c8 (i6 (sv 1)));refine z4 PassesOwn.never rfl ?_ ?_ ?_
  ·exact a6l rfl T.b_enumerate (a9 (p4 (a1o (sv 0) (a9 d6 c6))) c6)
  ·exact F0 rfl (l4 (h6 (i:=2) sc_q23.nd rfl (Or.inl rfl)) (l4 (h6 (i:=3) sc_q23.nd rfl (Or.inl rfl)) B3))
  refine c7 ?_ ?_
  ·exact a3A (i:=4) (hN:=sc_q23.nd) (hix:=rfl) (hx:=(Or.inl rfl)) rfl (N':= ["word"]) (js:=[none]) ⟨rfl,by decide +kernel,rfl,rfl,rfl⟩ (o9 (p4 (a1o (sv 3) (a9 d6 c6)))) (fun s0 H0 fp=>⟨(h6 (i:=0) (show (["word"]:List Str).Nodup by decide +kernel) rfl (Or.inl rfl)),(a7G (g9 (a1v hr.units) (sv 0) d6)),(sv 0)⟩)
  refine c8 ?_;refine m7 ?_ ?_ i5
  ·exact g9 a0s (i7 m6 rfl T.b_len PySem.boot_len (a9 (sv 4) c6)) b7
  refine c8 ?_;exact s9 (n9 (sv 1) (a9 (o6 (a9 (sv 2) (a9 (sv 4) c6))) c6))) b1d
def a5H:DS:=(d9 (j7 (dTk d2) (d5 1))
  (d9 (C9 (t9 (b9 0)) (d5 2) (m5 (j9 (dOp (pEq false) (dOp pIx (dOp pIx (b9 2) (dC (.int 1))) (dC (.int 0))) (dC (.str "function")))) (v8 (q8 (b9 1) (b0 (dTk (b0 (b9 2) d2)) d2))) (m5 (j9 (dOp (pEq false) (dCB v9 (b0 (b9 1) d2)) (dC (.int 0)))) Q7 (v8 (q8 (dOp pIx (b9 1) (dUn a1G (dC (.int 1)))) (b0 (b9 2) d2))))))
  (j8 (b9 1))))
abbrev Ln:=Nat×List Str
def gO(g:List Ln):O:=.lst (g.map lnD)
def rfs(h:Hh)(n:Nat):List D:=(List.range n).map fun j=>.ref (h.length + 1 + j)
def gH(h:Hh)(gs:List (List Ln)):Hh:=h ++ (.lst (rfs h gs.length) :: gs.map gO)
theorem b0n(h:Hh)(gs:List (List Ln))(x:Hh):(gH h gs ++ x)[h.length]?=some (.lst (rfs h gs.length)):=by
 unfold gH;rw [List.append_assoc,List.getElem?_append_right (Nat.le_refl _),Nat.sub_self];rfl
theorem b8Y(h:Hh){gs:List (List Ln)}{f:Nat}{l:List Ln}(e:gs[f]?=some l):(gH h gs)[h.length + 1 + f]?=some (.lst (l.map lnD)):=by
 unfold gH;rw [List.getElem?_append_right (by right),show h.length + 1 + f - h.length=f + 1 by right,List.getElem?_cons_succ,List.getElem?_map,e];rfl
theorem b4B(h:Hh)(gs:List (List Ln)):(gH h gs).length=h.length + 1 + gs.length:=by unfold gH;simp;omega
theorem b5z(h:Hh)(gs:List (List Ln))(g:List Ln):(gH h gs ++ [gO g]).set h.length (.lst (rfs h gs.length ++ [.ref (gH h gs).length]))=gH h (gs ++ [g]):=by
 rw [b4B];unfold gH;rw [List.append_assoc,List.set_append_right _ _ (Nat.le_refl _),Nat.sub_self,List.length_append,List.length_singleton];unfold rfs;rw [List.range_succ,List.map_append,List.map_append];rfl
theorem b6O(h:Hh)(gs:List (List Ln))(g:List Ln)(l:Ln):(gH h (gs ++ [g])).set (h.length + 1 + gs.length) (.lst (g.map lnD ++ [lnD l]))=gH h (gs ++ [g ++ [l]]):=by
 unfold gH;rw [List.set_append_right _ _ (by right),show h.length + 1 + gs.length - h.length=gs.length + 1 by right,List.set_cons_succ,List.map_append,List.map_append,List.set_append_right _ _ (by simp)]
 simp [gO]
def b3s(l:Ln):Prop:=∃ r,l.2=Str.ofString "function" :: r
def a2K(l:Ln):Prop:=∃ w r,l.2=w :: r/\PyData.strOk w=true/\(w == Str.ofString "function")=false
def a2O(g:List Ln):Prop:=∃ l r,g=l :: r/\b3s l/\∀ x ∈ r,a2K x
def grp:List (List Ln)->List Ln->List (List Ln)->Prop
 |cur,[],out=>cur=out
 |cur,l :: ls,out=>(b3s l/\grp (cur ++ [[l]]) ls out)\/(a2K l/\∃ i g,cur=i ++ [g]/\grp (i ++ [g ++ [l]]) ls out)
theorem a1D{out:List (List Ln)}{ls:List Ln}:∀ {r:List Ln} {i:List (List Ln)} {g:List Ln},(∀ x ∈ r,a2K x)->grp (i ++ [g ++ r]) ls out->grp (i ++ [g]) (r ++ ls) out
 |[],i,g,_,k=>by rw [List.append_nil] at k;exact k
 |x :: r,i,g,h,k=>.inr ⟨h x List.mem_cons_self,i,g,rfl,a1D (r:=r) (fun y hy=>h y (List.mem_cons_of_mem _ hy)) (by rw [List.append_assoc];exact k)⟩
theorem a3P:∀ {gs cur:List (List Ln)},(∀ g ∈ gs,a2O g)->grp cur gs.flatten (cur ++ gs)
 |[],cur,_=>by rw [List.append_nil];rfl
 |g :: gs,cur,h=>by
  obtain ⟨l,r,rfl,hl,hr⟩:=h g List.mem_cons_self;rw [List.flatten_cons];refine .inl ⟨hl,?_⟩
  have:=a3P (gs:=gs) (cur:=cur ++ [l :: r]) (fun x hx=>h x (List.mem_cons_of_mem _ hx))
  rw [List.append_assoc] at this;exact a1D (g:=[l]) hr this
def a3D:DSp:=fun ds h Q=>∃ gs:List (List Ln),ds=[.lst (gs.flatten.map lnD)]/\(∀ g ∈ gs,a2O g)/\gs.flatten.length <= 1000/\Q (.lst (gs.map fun g=>.lst (g.map lnD))) h
theorem b2O:PyData.strOk (Str.ofString "function")=true:=by decide +kernel
theorem b2e:∀ ds h Q,a3D ds h Q->m4 3 a5H ds h (Dr h Q):=by
 rintro ds h Q ⟨gs,rfl,ok,hl,q⟩
 have g0:=a3P (cur:=[]) ok;rw [List.nil_append] at g0;delta m4 a5H;simp only [VS];left;simp only [VV];subst hN;left;simp only [VV];refine n6 (fun p δ h'=>∃ (cur:List (List Ln)) (ls:List Ln) (x2:Option D),δ=[some (.lst (gs.flatten.map lnD)),some (.ref h.length),x2]/\h'=gH h cur/\gs.flatten=p ++ ls/\grp cur ls gs/\cur.length <= p.length/\∀ g ∈ cur,g.length <= p.length) ⟨[],gs.flatten,none,rfl,rfl,rfl,g0,Nat.le_refl _,(fun _ h=>nomatch h)⟩ (fun _ _ _ _=>Src.ok_nil) ?_ ?_
 ·rintro p l r δ h' N1 e ⟨cur,ls,x2,rfl,rfl,e2,gk,cl_,gl⟩ hN1
  have el:ls=l :: r:=List.append_cancel_left (e2.symm.trans e);subst el;have pl:p.length < gs.flatten.length:=by rw [e];simp
  rcases gk with ⟨⟨w,hw⟩,gk⟩ | ⟨⟨w,wr,hw,so,ne⟩,i,g,rfl,gk⟩
  ·obtain ⟨n,ws⟩:=l;have hw:ws=Str.ofString "function" :: w:=hw;subst hw;have z0:=b0n h cur [];rw [List.append_nil] at z0;have ff:(Str.ofString "function" == Str.ofString "function")=true:=beq_self_eq_true _;have rl:(rfs h cur.length).length=cur.length:=by unfold rfs;simp
   simp only [lnD,E6,b2O,z0,ff,b0n,VV];refine ⟨by right,hN1 _ _ ⟨cur ++ [[(n,Str.ofString "function" :: w)]],r,_,rfl,b5z h cur [(n,Str.ofString "function" :: w)],by rw [e];simp,gk,by simp;omega,fun g hg=>?_⟩⟩
   rcases List.mem_append.mp hg with z | z
   ·have:=gl g z;simp;omega
   ·rw [List.mem_singleton.mp z];simp
  ·obtain ⟨n,ws⟩:=l;have hw:ws=w :: wr:=hw;subst hw;have z0:=b0n h (i ++ [g]) [];rw [List.append_nil] at z0;have rl:(rfs h (i ++ [g]).length).length=i.length + 1:=by unfold rfs;simp
   have lz:((((rfs h (i ++ [g]).length).length:Nat):Int) == 0)=false:=by rw [rl];exact beq_eq_false_iff_ne.mpr (by right)
   have ixl:ixD (gH h (i ++ [g])) (.ref h.length) (.int (-1))=some (.ref (h.length + 1 + i.length)):=by
    rw [a0a (D3 z0)];unfold rfs;rw [List.length_append,List.length_singleton,List.range_succ,List.map_append];exact a2J _ _
   have ge:=b8Y h (gs:=i ++ [g]) (f:=i.length) (l:=g) (by rw [List.getElem?_append_right (Nat.le_refl _),Nat.sub_self];rfl);simp only [lnD,E6,b2O,so,ne,a0T (D3 z0),lz,ixl,ge,VV];have g1:=gl g (by simp);refine ⟨by rw [List.length_map];omega,hN1 _ _ ⟨i ++ [g ++ [(n,w :: wr)]],r,_,rfl,b6O h i g (n,w :: wr),by rw [e];simp,gk,by simp at cl_ ⊢;omega,fun g' hg=>?_⟩⟩
   rcases List.mem_append.mp hg with z | z
   ·have:=gl g' (List.mem_append_left _ z);simp;omega
   ·rw [List.mem_singleton.mp z];simp;omega
 ·rintro δ h' ⟨cur,ls,x2,rfl,rfl,e2,gk,cl_,gl⟩
  have el:ls=[]:=by
   have:=congrArg List.length e2
   rw [List.length_append] at this;exact List.length_eq_zero_iff.mp (by right)
  subst el;have gk:cur=gs:=gk;subst gk;subst hN;simp only [VV];have z0:=b0n h cur [];rw [List.append_nil] at z0;refine ⟨h,_,.lst (cur.map fun g=>.lst (g.map lnD)),rfl,rfl,fun _ _ e=>.inl e,.opn (Nat.le_refl _) z0 (.of_get (by unfold rfs;simp) fun f x y hx hy=>?_),q⟩;unfold rfs at hx;rw [List.getElem?_map] at hx hy
  have fl:f < cur.length:=by
   rcases Nat.lt_or_ge f cur.length with z | z
   ·exact z
   ·rw [List.getElem?_eq_none (by rw [List.length_range];exact z)] at hx;cases hx
  rw [List.getElem?_range fl] at hx;cases hx;rw [List.getElem?_eq_getElem fl] at hy;cases hy;exact .opn (by right) (b8Y h (List.getElem?_eq_getElem fl)) (.of (p7 (fun x=>by show (true && (B0 (x.2.map D.str) && true))=true;rw [p7 (fun _=>rfl)];rfl) _))
theorem b5Z{f:Addr}{fd:FuncData}(F:Fun K "parts_of" "parts_of" a7N f fd)(T:Txt P w K mg):t8 P w K mg base CX0 1 f fd ["lines"] (spD K 1 a3D) :=
 B8 (k:=0) (b:=a5H) F sc_q25 (fun cdv A outer s H E hr=>by
  refine c7 ?_ ?_
  ·exact i9 (i:=1) sc_q25.nd rfl (Or.inl rfl) (J4 (j5 c6))
  refine c7 ?_ (c8 (i6 (sv 1)));refine z4 PassesOwn.never rfl (o9 (sv 0)) (h6 (i:=2) sc_q25.nd rfl (Or.inl rfl)) ?_;refine c8 ?_;refine m7 ?_ ?_ ?_
  ·exact g9 (j6 hr.units) (d4 d3 (d4 d3 (sv 2) b7) b7) d6
  ·exact c8 (s9 (n9 (sv 1) (a9 (J4 (j5 (a9 (sv 2) c6))) c6)))
  refine c8 ?_;refine m7 ?_ (c8 O4) ?_
  ·exact g9 (j6 hr.units) (i7 m6 rfl T.b_len PySem.boot_len (a9 (sv 1) c6)) b7
  refine c8 ?_;refine s9 ?_;exact n9 (d4 d3 (sv 1) (W8 M7 b7)) (a9 (sv 2) c6)) b2e
def a7v:DS:=(d9 (j7 b2V (d5 1))
  (d9 (C9 (Q2 (b0 (b9 0) d2)) (V0 2 (p6 (d5 2) (p6 (d5 3) K5))) (d9 (j7 (dOp pIx (dOp pIx (b9 3) (dC (.int 0))) (dC (.int 1))) (d5 4))
  (m5 (j9 (dOp pGt (dCB v9 (b0 (b9 4) d2)) (dC (.int 1)))) (v8 (b2E (b9 1) (dOp pIx (b9 4) (dC (.int 1))) (A0 (b0 (b9 2) (b0 (dOp T6 (dCB v9 (b0 (b9 4) d2)) (dC (.int 2))) d2))))) j2)))
  (j8 (b9 1))))
def gD(g:List Ln):D:=.lst (g.map lnD)
theorem b1X(ws:List Str)(gv:List Nat)(e:gv.length=ws.length):(hdK ws gv).length=ws.length:=by unfold hdK;simp;omega
theorem a5V(ws:List Str)(gv:List Nat)(e:gv.length=ws.length)(w:Str)(k:Nat):hdK (ws ++ [w]) (gv ++ [k])=hdK ws gv ++ [(Sum.inr w,.tup [nD ws.length,nD k])]:=by
 unfold hdK;rw [List.zip_append (by right),List.zipIdx_append,List.map_append]
 simp
 omega
theorem a5X{ws:List Str}{gv:List Nat}{w:Str}(h:w ∉ ws):a1r (hdK ws gv) (.inr w)=none/\(hdK ws gv).any (fun kv=>decide (kv.1=(Sum.inr w:Key)))=false:=by
 have key:∀ kv ∈ hdK ws gv,kv.1 ≠ (Sum.inr w:Key):=fun kv hkv e=>by
  unfold hdK at hkv;obtain ⟨x,hx,rfl⟩:=List.mem_map.mp hkv;have e:x.1.1=w:=Sum.inr.inj e
  have m:x.1 ∈ ws.zip gv:=by
   have:=List.mem_map_of_mem (f:=Prod.fst) hx
   rw [List.zipIdx_map_fst] at this;exact this
  exact h (by rw [<- e];exact (List.of_mem_zip (a:=x.1.1) (b:=x.1.2) m).1)
 refine ⟨?_,?_⟩
 ·unfold a1r;rw [List.find?_eq_none.mpr fun kv hkv=>by simpa using key kv hkv];rfl
 ·rw [List.any_eq_false];intro kv hkv
  simpa using key kv hkv
def a3c(ws:List Str)(gv:List Nat)(gs:List (List Ln)):Prop:=gs.length=ws.length/\gv.length=ws.length/\∀ (f:Nat) (g:List Ln) (w:Str) (k:Nat),gs[f]?=some g->ws[f]?=some w->gv[f]?=some k->∃ n r ls,g=(n,Str.ofString "function" :: w :: r) :: ls/\r.length=k
def a3Y:DSp:=fun ds h Q=>∃ (ws:List Str) (gv:List Nat) (gs:List (List Ln)),ds=[.lst (gs.map gD)]/\a3c ws gv gs/\ws.Nodup/\ws.length <= 6/\(∀ k ∈ gv,k <= 100)/\Q (.ref h.length) (h ++ [.dK (hdK ws gv)])
theorem b1R:∀ ds h Q,a3Y ds h Q->m4 5 a7v ds h Q:=by
 rintro ds h Q ⟨ws,gv,gs,rfl,⟨l1,l2,hd⟩,nd,w6,g100,q⟩
 delta m4 a7v;simp only [VS];left;simp only [VV];subst hN;left;simp only [VV];rw [C4];refine n6 (fun p δ h'=>∃ (x2 x3 x4:Option D),δ=[some (.lst (gs.map gD)),some (.ref h.length),x2,x3,x4]/\h'=h ++ [.dK (hdK (ws.take p.length) (gv.take p.length))]) ⟨none,none,none,rfl,rfl⟩ (fun _ _ _ _=>Src.ok_nil) ?_ ?_
 ·rintro p ⟨g,f⟩ r δ h' N1 e ⟨x2,x3,x4,rfl,rfl⟩ hN1
  obtain ⟨hf,hg⟩:=S4 e;subst hf;have pl:=(List.getElem?_eq_some_iff.mp hg).1;obtain ⟨w,hw⟩:∃ w,ws[p.length]?=some w:=⟨_,List.getElem?_eq_getElem (by right)⟩
  obtain ⟨k,hk⟩:∃ k,gv[p.length]?=some k:=⟨_,List.getElem?_eq_getElem (by right)⟩
  obtain ⟨n,rr,ls,rfl,er⟩:=hd _ _ _ _ hg hw hk;have k1:=g100 k (List.mem_of_getElem? hk)
  have new:w ∉ ws.take p.length:=fun hm=>by
   obtain ⟨j,hj⟩:=List.getElem?_of_mem hm
   have jl:j < p.length:=by
    have:=(List.getElem?_eq_some_iff.mp hj).1
    rw [List.length_take] at this;omega
   rw [List.getElem?_take_of_lt jl] at hj;obtain ⟨a1,b1⟩:=List.getElem?_eq_some_iff.mp hj;obtain ⟨a2,b2⟩:=List.getElem?_eq_some_iff.mp hw
   have:=(List.getElem_inj (h₀:=a1) (h₁:=a2) nd).mp (b1.trans b2.symm)
   omega
  obtain ⟨n1,n2⟩:=a5X (gv:=gv.take p.length) new;have gt1:∀ m:Nat,(1:Int) < ((m + 1 + 1:Nat):Int):=fun m=>by right
  have tl:(ws.take p.length).length=p.length:=by rw [List.length_take];omega
  have tl2:(gv.take p.length).length=(ws.take p.length).length:=by rw [List.length_take,List.length_take];omega
  simp only [gD,VV];refine ⟨trivial,?_⟩;left;simp only [E6,lnD,VV];subst hN;simp only [gt1,o5,a6o,VV];refine ⟨⟨_,rfl⟩,_,rfl,?_⟩;refine ⟨by rw [b1X _ _ tl2,tl];omega,n1,hN1 _ _ ⟨_,_,_,rfl,?_⟩⟩;unfold a4b;rw [n2,if_neg (by decide),p8,show (p ++ [((n,Str.ofString "function" :: w :: rr) :: ls,p.length)]).length=p.length + 1 by simp,List.take_add_one,List.take_add_one,hw,hk];show _=h ++ [O.dK (hdK (ws.take p.length ++ [w]) (gv.take p.length ++ [k]))];rw [a5V _ _ tl2,tl,List.length_map,er,Int.zero_add,show (((k + 1 + 1:Nat):Int) - 2)=(k:Int) by right]
 ·rintro δ h' ⟨x2,x3,x4,rfl,rfl⟩
  rw [List.length_zipIdx,l1,List.take_length,<- l2,List.take_length];subst hN;simp only [VV];exact q
theorem b3L{f:Addr}{fd:FuncData}(F:Fun K "heads_of" "heads_of" a5Z f fd)(T:Txt P w K mg):t8 P w K mg base CX0 1 f fd ["parts"] (spD K 1 a3Y) :=
 x0 (k:=0) (b:=a7v) F sc_q19 (fun cdv A outer s H E hr=>by
  refine c7 ?_ ?_
  ·exact i9 (i:=1) sc_q19.nd rfl (Or.inl rfl) b1Y
  refine c7 ?_ (c8 (i6 (sv 1)));refine z4 PassesOwn.never rfl (O3 rfl T.b_enumerate (a9 (sv 0) c6)) ?_ ?_
  ·exact F0 rfl (l4 (h6 (i:=2) sc_q19.nd rfl (Or.inl rfl)) (l4 (h6 (i:=3) sc_q19.nd rfl (Or.inl rfl)) B3))
  refine c7 ?_ ?_
  ·exact i9 (i:=4) sc_q19.nd rfl (Or.inl rfl) (d4 d3 (d4 d3 (sv 3) b7) b7)
  refine c8 ?_;refine m7 ?_ ?_ i5
  ·exact g9 a0s (i7 m6 rfl T.b_len PySem.boot_len (a9 (sv 4) c6)) b7
  refine c8 ?_;refine s9 ?_;exact b1y (sv 1) (d4 d3 (sv 4) b7) (o6 (a9 (sv 2) (a9 (d7 H9 (i7 m6 rfl T.b_len PySem.boot_len (a9 (sv 4) c6)) b7) c6))) ⟨rfl,rfl,rfl,rfl⟩) b1R
def a6x:DS:=(d9 (j7 (dSl (dOp pIx (dOp pIx (b9 2) (dC (.int 0))) (dC (.int 1))) (D2 (dC (.int 1))) u9) (d5 3))
  (d9 (j7 (dSl (b9 3) (D2 (dC (.int 1))) u9) (d5 4))
  (d9 (j7 (F8 (dOp pGt (dCB v9 (b0 (b9 2) d2)) (dC (.int 1))) (F8 (dOp a0L (b9 1) (dC (.int 6))) (F8 (dOp pGt (dCB v9 (b0 (b9 3) d2)) (dC (.int 0))) (F8 (dCB b2o (b0 (dV (u5 [none] (t9 (b9 3)) (d5 0) y8 (n8 C2 (b0 (b9 0) d2)))) d2)) (F8 (dOp (pEq false) (dOp pIx (a3T (b9 0) (dOp pIx (b9 3) (dC (.int 0)))) (dC (.int 0))) (b9 1)) (F8 (dOp pLe (dCB v9 (b0 (b9 4) d2)) (dC (.int 4))) (dOp (pEq false) (a2Y (b0 (b9 4) d2)) (dCB v9 (b0 (b9 4) d2))))))))) (d5 5))
  (m5 (Y6 (dTr (b9 5))) Q7 j2))))
def a3X:DSp:=fun ds h Q=>∃ (i:Nat) (ws:List Str) (gv:List Nat) (f n k:Nat) (w:Str) (rr:List Str) (ls:List Ln),ds=[.ref i,nD f,gD ((n,Str.ofString "function" :: w :: rr) :: ls)]/\h[i]?=some (.dK (hdK ws gv))/\ws.Nodup/\gv.length=ws.length/\ws[f]?=some w/\gv[f]?=some k/\rr.length=k/\1 <= ls.length/\f < 6/\isN w=true/\NG rr/\rr.Nodup/\k <= 4/\Q .non h
theorem b2j:∀ ds h Q,a3X ds h Q->m4 6 a6x ds h Q:=by
 rintro ds h Q ⟨i,ws,gv,f,n,k,w,rr,ls,rfl,hi,nd,gl,hw,hk,er,l1,f6,nw,nr,ndr,k4,q⟩
 have hv:=a2l nd gl hw hk;delta m4 a6x;simp only [VS];left;simp only [gD,lnD,E6,a7e,VV];subst hN;left;simp only [a7e,VV];subst hN;left;have g1:(1:Int) < (((ls.map lnD).length + 1:Nat):Int):=by rw [List.length_map];omega
 have g2:(f:Int) < 6:=by right
 have g3:(0:Int) < (((rr.map D.str).length + 1:Nat):Int):=by right
 simp only [g1,g2,g3,VV];have e:(D.str w :: List.map D.str rr)=(w :: rr).map D.str:=rfl
 have ok:∀ s ∈ w :: rr,isN s=true:=fun s hs=>by
  rcases List.mem_cons.mp hs with rfl | hs
  ·exact nw
  ·exact nr s hs
 refine ⟨by rw [List.length_map];omega,?_⟩;rw [e];refine z6 (fun s=>.bl (isN s)) Src.ok_nil none (fun s hs K kk=>?_) ?_
 ·simp only [VV];exact ⟨_,_,rfl,(u0 (ok s hs)).1,by decide,kk⟩
 refine ⟨_,(w :: rr).map isN,rfl,by rw [List.map_map];rfl,?_⟩;rw [List.all_map,show (w :: rr).all ((fun b=>b) ∘ isN)=true from List.all_eq_true.mpr (fun s hs=>ok s hs)];have g4:((rr.map D.str).length:Int) <= 4:=by rw [List.length_map];omega
 have ff:((f:Int) == (f:Int))=true:=beq_self_eq_true _;have lq:((rr.length:Int) == ((rr.map D.str).length:Int))=true:=by rw [List.length_map];exact beq_self_eq_true _
 simp only [E6,VV];refine U2 hi ?_;rw [hv];refine ⟨_,rfl,?_⟩;simp only [ff,g4,VV];refine ⟨rr,rfl,ndr,by right,?_⟩;simp only [lq,VV];subst hN;simp only [VV];exact q
theorem b6N{f:Addr}{fd:FuncData}(F:Fun K "check_head" "check_head" a5S f fd)(T:Txt P w K mg)(C_q20:Cal P w K mg base 2 "is_name" ["text"] (spD K 1 C2)):t8 P w K mg base CX0 3 f fd ["heads","f","part"] (spD K 3 a3X) :=
 x0 (k:=2) (b:=a6x) F sc_q16 (fun cdv A outer s H E hr=>by
  refine c7 ?_ ?_
  ·refine i9 (i:=3) sc_q16.nd rfl (Or.inl rfl) ?_;exact G2 (d4 d3 (d4 d3 (sv 2) b7) b7) (w9 b7) y0
  refine c7 ?_ ?_
  ·exact i9 (i:=4) sc_q16.nd rfl (Or.inl rfl) (G2 (sv 3) (w9 b7) y0)
  refine c7 ?_ ?_
  ·refine i9 (i:=5) sc_q16.nd rfl (Or.inl rfl) ?_;exact C0 (y4 a0s (i7 m6 rfl T.b_len PySem.boot_len (a9 (sv 2) c6)) b7) (C0 (y4 J5 (sv 1) (D5 rfl T.c_MOST_FUNCTIONS)) (C0 (y4 a0s (i7 m6 rfl T.b_len PySem.boot_len (a9 (sv 3) c6)) b7) (C0 (i7 (a2C rfl) rfl T.b_all PyProof.Rows.boot_all (a9 (p4 (p9 rfl (N':= ["name"]) (js:=[none]) ⟨rfl,by decide +kernel,rfl,rfl,rfl⟩ (o9 (sv 3)) (fun s0 H0 fp=>⟨(h6 (i:=0) (show (["name"]:List Str).Nodup by decide +kernel) rfl (Or.inl rfl)),u2,(h7 C_q20 (hr.mono (by decide)) rfl (a9 (sv 0) c6))⟩))) c6)) (C0 (y4 (j6 hr.units) (d4 d3 (a0W hr.units (sv 0) (d4 d3 (sv 3) b7)) b7) (sv 1)) (C0 (y4 M3 (i7 m6 rfl T.b_len PySem.boot_len (a9 (sv 4) c6)) (D5 rfl T.c_MOST_VARIABLES)) (X8 (y4 (j6 hr.units) (a4Y hr rfl T.b_len rfl T.b_set (a9 (sv 4) c6)) (i7 m6 rfl T.b_len PySem.boot_len (a9 (sv 4) c6)))))))))
  refine c8 ?_;exact m7 (J0 (o0 (sv 5))) (c8 O4) i5) b2j
def a7d:DS:=(d9 (j7 (dCB G7 (b0 (dV (u5 [none,some 1] (t9 (n8 Z6 (b0 (b9 2) (b0 (b9 3) d2)))) (d5 0) y8 (a2Z (b9 1) (b0 (b9 0) d2)))) d2)) (d5 4))
  (d9 (m5 (j9 (dOp (pEq false) (b9 2) (dC (.str "number")))) (j8 (A0 (b0 (b9 2) (b0 (dOp pIx (b9 4) (dC (.int 0))) (b0 (n8 J3 (b0 (dOp pIx (b9 3) (dC (.int 2))) d2)) d2))))) j2)
  (d9 (m5 (j9 (dOp (pEq false) (b9 2) (dC (.str "does")))) (j8 (A0 (b0 (b9 2) (b0 (dOp pIx (b9 4) (dC (.int 0))) (b0 (dOp pIx (b9 3) (dC (.int 3))) (b0 (dOp pIx (b9 4) (dC (.int 1))) (b0 (dOp pIx (b9 4) (dC (.int 2))) d2))))))) j2)
  (d9 (m5 (j9 (dOp (pEq false) (b9 2) (dC (.str "call")))) (j8 (A0 (b0 (b9 2) (b0 (dOp pIx (b9 4) (dC (.int 0))) (b0 (dOp pIx (a3T (b9 0) (dOp pIx (b9 3) (dC (.int 3)))) (dC (.int 0))) (b0 (dSl (b9 4) (D2 (dC (.int 1))) u9) d2)))))) j2)
  (d9 (m5 (dOr (j9 (dOp (pEq false) (b9 2) (dC (.str "if")))) (j9 (dOp (pEq false) (b9 2) (dC (.str "to"))))) (j8 (dOp m3 (dOp m3 (A0 (b0 (b9 2) d2)) (b9 4)) (A0 (b0 (dOp T6 (n8 J3 (b0 (dOp pIx (b9 3) (dUn a1G (dC (.int 1)))) d2)) (dC (.int 1))) d2)))) j2)
  (j8 (dOp m3 (A0 (b0 (b9 2) d2)) (b9 4))))))))
theorem N0:(Str.ofString "does" == Str.ofString "number")=false:=by decide +kernel
theorem K9:(Str.ofString "call" == Str.ofString "number")=false:=by decide +kernel
theorem b8a:(Str.ofString "if" == Str.ofString "number")=false:=by decide +kernel
theorem b8A:(Str.ofString "to" == Str.ofString "number")=false:=by decide +kernel
theorem U0:(Str.ofString "copy" == Str.ofString "number")=false:=by decide +kernel
theorem Q5:(Str.ofString "dye" == Str.ofString "number")=false:=by decide +kernel
theorem K8:(Str.ofString "wash" == Str.ofString "number")=false:=by decide +kernel
theorem Q3:(Str.ofString "return" == Str.ofString "number")=false:=by decide +kernel
theorem a1V{vs:List Str}(nd:vs.Nodup){x m:Nat}(hx:x < m)(hm:m <= vs.length):(vs.take m).idxOf (vn vs x)=x/\vn vs x ∈ vs.take m:=by
 have xl:x < (vs.take m).length:=by rw [List.length_take];omega
 have e:(vs.take m)[x]=vn vs x:=by
  rw [List.getElem_take];unfold vn;rw [List.getD_eq_getElem?_getD,List.getElem?_eq_getElem (by right)];rfl
 have nd':(vs.take m).Nodup:=nd.sublist (List.take_sublist m vs);refine ⟨?_,?_⟩
 ·rw [<- e];exact nd'.idxOf_getElem x xl
 ·rw [<- e];exact List.getElem_mem xl
def a3v:DSp:=fun ds h Q=>∃ (i:Nat) (ws vs:List Str) (gv:List Nat) (many m:Nat) (r:Rw),ds=[.ref i,.lst ((vs.take m).map .str),.str (y3 r),.lst ((l7 ws vs r).map .str)]/\h[i]?=some (.dK (hdK ws gv))/\ws.Nodup/\gv.length=ws.length/\NG ws/\NG vs/\vs.Nodup/\many <= 9/\L6 ws vs gv many r/\(∀ x ∈ d8 r,x < m)/\m <= vs.length/\vs.length <= 10/\Q (roD r) h
theorem b1E:∀ ds h Q,a3v ds h Q->m4 5 a7d ds h Q:=by
 rintro ds h Q ⟨i,ws,vs,gv,many,m,r,rfl,hi,nd,gl,hw,hv,ndv,hm,hg,hx,ml,v10,q⟩
 delta m4 a7d;simp only [VS];left;simp only [VV];refine ⟨ws,vs,gv,many,r,rfl,hw,hv,hm,hg,?_⟩;simp only [List.length_map,VV];refine ⟨by have:=hg.2.1;omega,?_⟩;rw [List.map_map];refine z6 (fun x:Nat=>nD x) Src.ok_nil none (fun x hxl K kk=>?_) ?_
 ·obtain ⟨e1,e2⟩:=a1V ndv (hx x hxl) ml;simp only [VV];refine ⟨rfl,_,_,rfl,rfl,by rw [List.length_take];omega,e2,?_⟩;rw [e1];exact kk
 subst hN;left
 cases r with
 |num x k =>
  have kn:k.toNat < 10 ^ 18:=by have h1:0 <= k/\k < 10 ^ 18:=hg.2.2;omega
  simp only [y3,l7,d8,VV];refine ⟨_,_,rfl,(B4 kn).1,by decide,?_⟩;rw [J7 kn];have q:Q (.tup [.str "number",nD x,.int k]) h:=q;have h1:0 <= k:=hg.2.2.1;rw [<- Int.toNat_of_nonneg h1] at q;exact q
 |does x o y z=>simp only [y3,l7,d8,N0,VV];subst hN;left;simp only [VV];exact q
 |call x g ys =>
  obtain ⟨_,_,g1,g2⟩:=hg;have hgw:ws[g]?=some (vn ws g):=by unfold vn;rw [List.getD_eq_getElem?_getD,List.getElem?_eq_getElem g1];rfl
  have hv:=a2l nd gl hgw g2;simp only [y3,l7,d8,K9,VV];subst hN;left;simp only [VV];subst hN;left;simp only [E6,b3k,VV];refine U2 hi ?_;rw [hv];refine ⟨_,rfl,?_⟩;simp only [a7e,VV];exact q
 |ifq x t =>
  have tn:t + 1 < 10 ^ 18:=by have ht:t < many:=hg.2.2;omega
  have m1:∀ a b c d:D,atI [a,b,c,d] (-1)=some d:=fun _ _ _ _=>rfl;simp only [y3,l7,d8,b8a,VV];subst hN;left;simp only [VV];subst hN;left;simp only [VV];subst hN;left;simp only [m1,VV];refine ⟨by simp,by decide,_,_,rfl,(B4 tn).1,by decide,?_⟩;rw [J7 tn];simp only [nuD,T6,VV];refine ⟨by simp,by decide,?_⟩;rw [show ((t + 1:Nat):Int) - 1=(t:Int) by right];exact q
 |to t =>
  have tn:t + 1 < 10 ^ 18:=by have ht:t < many:=hg.2.2;omega
  have m1:∀ a b:D,atI [a,b] (-1)=some b:=fun _ _=>rfl;simp only [y3,l7,d8,b8A,VV];subst hN;left;simp only [VV];subst hN;left;simp only [VV];subst hN;left;simp only [m1,VV];refine ⟨by simp,by decide,_,_,rfl,(B4 tn).1,by decide,?_⟩;rw [J7 tn];simp only [nuD,T6,VV];refine ⟨by simp,by decide,?_⟩;rw [show ((t + 1:Nat):Int) - 1=(t:Int) by right];exact q
 |_=>simp only [y3,l7,d8,U0,Q5,K8,Q3,VV];subst hN;left;simp only [VV];subst hN;left;simp only [VV];subst hN;left;simp only [VV];subst hN;simp only [VV];exact ⟨by simp,by decide,q⟩
theorem b5t{f:Addr}{fd:FuncData}(F:Fun K "row_of" "row_of" a8h f fd)(T:Txt P w K mg)(C_q32:Cal P w K mg base 3 "variables_in" ["sort","words"] (spD K 2 Z6))(C_q24:Cal P w K mg base 2 "number_of" ["text"] (spD K 1 J3)):t8 P w K mg base CX0 4 f fd ["heads","variables","sort","words"] (spD K 4 a3v) :=
 x0 (k:=3) (b:=a7d) F sc_q27 (fun cdv A outer s H E hr=>by
  refine c7 ?_ ?_
  ·refine i9 (i:=4) sc_q27.nd rfl (Or.inl rfl) ?_;exact o8 D4 rfl T.b_tuple PyProof.Rows.boot_tuple (a9 (p4 (p9 rfl (N':= ["name","variables"]) (js:=[none,some 1]) ⟨rfl,by decide +kernel,rfl,rfl,rfl⟩ (o9 (h7 C_q32 (hr.mono (by decide)) rfl (a9 (sv 2) (a9 (sv 3) c6)))) (fun s0 H0 fp=>⟨(h6 (i:=0) (show (["name","variables"]:List Str).Nodup by decide +kernel) rfl (Or.inl rfl)),u2,(a4W (sv 1) (a9 (sv 0) c6))⟩))) c6)
  refine c7 ?_ ?_
  ·refine m7 (g9 (j6 hr.units) (sv 2) d6) ?_ i5;refine c8 ?_;refine i6 ?_;refine o6 (n:=3) ?_;refine a9 (sv 2) ?_;refine a9 (d4 d3 (sv 4) b7) ?_;refine a9 ?_ c6;exact h7 C_q24 (hr.mono (by decide)) rfl (a9 (d4 d3 (sv 3) b7) c6)
  refine c7 ?_ ?_
  ·refine m7 (g9 (j6 hr.units) (sv 2) d6) ?_ i5;refine c8 ?_;refine i6 ?_;refine o6 (n:=5) ?_;refine a9 (sv 2) ?_;refine a9 (d4 d3 (sv 4) b7) ?_;refine a9 (d4 d3 (sv 3) b7) ?_;exact a9 (d4 d3 (sv 4) b7) (a9 (d4 d3 (sv 4) b7) c6)
  refine c7 ?_ ?_
  ·refine m7 (g9 (j6 hr.units) (sv 2) d6) ?_ i5;refine c8 ?_;refine i6 ?_;refine o6 (n:=4) ?_;refine a9 (sv 2) ?_;refine a9 (d4 d3 (sv 4) b7) ?_;refine a9 ?_ (a9 (G2 (sv 4) (w9 b7) y0) c6);exact d4 d3 (a0W hr.units (sv 0) (d4 d3 (sv 3) b7)) b7
  refine c7 ?_ (c8 (i6 (d7 j0 (o6 (a9 (sv 2) c6)) (sv 4))));refine m7 ?_ ?_ i5
  ·exact F7 (S5 (g9 (j6 hr.units) (sv 2) d6) (M6 (g9 (j6 hr.units) (sv 2) d6)))
  refine c8 ?_;refine i6 ?_;exact d7 j0 (d7 j0 (o6 (a9 (sv 2) c6)) (sv 4)) (o6 (a9 (d7 H9 (h7 C_q24 (hr.mono (by decide)) rfl (a9 (d4 d3 (sv 3) (W8 M7 b7)) c6)) b7) c6))) b1E
def a6e:DS:=(d9 (j7 (dOp pIx (dOp pIx (b9 1) (dC (.int 0))) (dC (.int 1))) (d5 3))
  (d9 (j7 (dSl (b9 3) (D2 (dC (.int 2))) u9) (d5 4))
  (d9 (j7 (dTk d2) (d5 5))
  (d9 (C9 (t9 (dSl (b9 1) (D2 (dC (.int 1))) u9)) (V0 2 (p6 (d5 6) (p6 (d5 7) K5))) (d9 (j7 (n8 a3e (b0 (b9 7) d2)) (d5 8))
  (d9 (b0X 2 (n8 Z2 (b0 (b9 8) d2)) (pI0 fun i j=>i + j))
  (d9 (j7 (n8 a3b (b0 (b9 4) (b0 (n8 Z6 (b0 (b9 8) (b0 (b9 7) d2))) d2))) (d5 4))
  (d9 (j7 (F8 (dOp a0L (dCB v9 (b0 (b9 5) d2)) (dC (.int 9))) (F8 (dOp pLe (b9 2) (dC (.int 24))) (dOp pLe (dCB v9 (b0 (b9 4) d2)) (dC (.int 4))))) (d5 9))
  (d9 (m5 (dOr (j9 (dOp (pIs false) (b9 8) (dC .non))) (dOr (Y6 (dTr (b9 9))) (Y6 (dTr (n8 a3J (b0 (b9 0) (b0 (dOp T6 (dCB v9 (b0 (b9 1) d2)) (dC (.int 1))) (b0 (b9 8) (b0 (b9 7) d2))))))))) Q7 j2)
  (v8 (q8 (b9 5) (b0 (n8 a3v (b0 (b9 0) (b0 (b9 4) (b0 (b9 8) (b0 (b9 7) d2))))) d2)))))))))
  (d9 (m5 (j9 (dOp (pIn true) (dOp pIx (dOp pIx (b9 5) (dUn a1G (dC (.int 1)))) (dC (.int 0))) (A0 (b0 (dC (.str "to")) (b0 (dC (.str "return")) d2))))) Q7 j2)
  (j8 (A0 (b0 (dOp pIx (b9 3) (dC (.int 1))) (b0 (dOp T6 (dCB v9 (b0 (b9 3) d2)) (dC (.int 2))) (b0 (dCB G7 (b0 (b9 4) d2)) (b0 (dCB G7 (b0 (b9 5) d2)) d2)))))))))))
def grow:Nat->List Nat->Nat
 |m,[]=>m
 |m,x :: xs=>grow (if x < m then m else m + 1) xs
def G0:Nat->List Nat->Prop
 |_,[]=>True
 |m,x :: xs=>x <= m/\G0 (if x < m then m else m + 1) xs
theorem K7{vs:List Str}(nd:vs.Nodup):∀ (xs:List Nat) (m:Nat),m <= vs.length->(∀ x ∈ xs,x < vs.length)->G0 m xs->more (vs.take m) (xs.map (vn vs))=vs.take (grow m xs)/\m <= grow m xs/\grow m xs <= vs.length/\∀ x ∈ xs,x < grow m xs
 |[],m,hm,_,_=>⟨rfl,Nat.le_refl _,hm,fun _ h=>nomatch h⟩
 |x :: xs,m,hm,hx,⟨h1,h2⟩=>by
  have xl:=hx x List.mem_cons_self
  by_cases z:x < m
  ·rw [if_pos z] at h2;obtain ⟨a,b,c,d⟩:=K7 nd xs m hm (fun y hy=>hx y (List.mem_cons_of_mem _ hy)) h2;have e1:grow m (x :: xs)=grow m xs:=by show grow (if x < m then m else m + 1) xs=_;rw [if_pos z]
   rw [e1];refine ⟨?_,b,c,fun y hy=>?_⟩
   ·show more (if vn vs x ∈ vs.take m then vs.take m else vs.take m ++ [vn vs x]) _=_;rw [if_pos (a1V nd z hm).2];exact a
   ·rcases List.mem_cons.mp hy with rfl | hy
    ·omega
    ·exact d y hy
  ·have xm:x=m:=by right
   subst xm;rw [if_neg z] at h2;obtain ⟨a,b,c,d⟩:=K7 nd xs (x + 1) (by right) (fun y hy=>hx y (List.mem_cons_of_mem _ hy)) h2;have e1:grow x (x :: xs)=grow (x + 1) xs:=by show grow (if x < x then x else x + 1) xs=_;rw [if_neg z]
   rw [e1];have ev:vn vs x=vs[x]:=by unfold vn;rw [List.getD_eq_getElem?_getD,List.getElem?_eq_getElem xl];rfl
   have nm:vn vs x ∉ vs.take x:=fun hm=>by
    obtain ⟨j,hj⟩:=List.getElem?_of_mem hm
    have jl:j < x:=by
     have:=(List.getElem?_eq_some_iff.mp hj).1
     rw [List.length_take] at this;omega
    rw [List.getElem?_take_of_lt jl] at hj;obtain ⟨a1,b1⟩:=List.getElem?_eq_some_iff.mp hj
    have:=(List.getElem_inj (h₀:=a1) (h₁:=xl) nd).mp (b1.trans ev)
    omega
   refine ⟨?_,by right,c,fun y hy=>?_⟩
   ·show more (if vn vs x ∈ vs.take x then vs.take x else vs.take x ++ [vn vs x]) _=_;rw [if_neg nm]
    have:vs.take x ++ [vn vs x]=vs.take (x + 1):=by rw [List.take_add_one,List.getElem?_eq_getElem xl,ev];rfl
    rw [this];exact a
   ·rcases List.mem_cons.mp hy with rfl | hy
    ·omega
    ·exact d y hy
theorem inOrd_app:∀ {xs ys:List Nat} {m:Nat},G0 m (xs ++ ys) ↔ G0 m xs/\G0 (grow m xs) ys
 |[],ys,m=>by simp [G0,grow]
 |x :: xs,ys,m=>by
  show (x <= m/\G0 _ (xs ++ ys)) ↔ (x <= m/\G0 _ xs)/\G0 (grow _ xs) ys;rw [inOrd_app,and_assoc]
theorem a1R:∀ (xs ys:List Nat) (m:Nat),grow m (xs ++ ys)=grow (grow m xs) ys
 |[],ys,m=>rfl
 |x :: xs,ys,m=>a1R xs ys _
structure FuG(ws:List Str)(gv:List Nat)(F:Fu):Prop where
 nm:isN F.name=true
 vs:NG F.vars
 nd:F.vars.Nodup
 v4:F.vars.length <= 4
 gn:F.given <= F.vars.length
 rl:1 <= F.rows.length/\F.rows.length <= 9
 ok:∀ r ∈ F.rows,L6 ws F.vars gv F.rows.length r
 ord:G0 F.given (F.rows.flatMap d8)
 all:grow F.given (F.rows.flatMap d8)=F.vars.length
 last:∃ (i:List Rw) (r:Rw),F.rows=i ++ [r]/\((∃ q,r = .to q)\/∃ x,r = .ret x)
def b1l(ws:List Str)(F:Fu)(g:List Ln):Prop:=∃ n ls,g=(n,Str.ofString "function" :: F.name :: F.vars.take F.given) :: ls/\ls.map (·.2)=F.rows.map (l7 ws F.vars)
theorem a3G(F:Fu):nrD (fuD F)=true:=by
 have h1:B0 (F.vars.map D.str)=true:=p7 (fun _=>rfl) _;have h2:B0 (F.rows.map roD)=true:=p7 (fun r=>by cases r <;> first | rfl | exact (show (true && (true && (true && (B0 (List.map nD _) && true))))=true by rw [p7 (fun _=>rfl)];rfl)) _;show (true && (true && (B0 (F.vars.map D.str) && (B0 (F.rows.map roD) && true))))=true;rw [h1,h2];rfl
def a3l:DSp:=fun ds h Q=>∃ (i:Nat) (ws:List Str) (gv:List Nat) (F:Fu) (g:List Ln) (e:Nat),ds=[.ref i,gD g,nD e]/\h[i]?=some (.dK (hdK ws gv))/\ws.Nodup/\NG ws/\gv.length=ws.length/\FuG ws gv F/\b1l ws F g/\e + (F.rows.map wtR).sum <= 24/\Q (fuD F) h
theorem b1M:∀ ds h Q,a3l ds h Q->m4 10 a6e ds h (Dr h Q):=by
 rintro ds h Q ⟨i,ws,gv,F,g,e,rfl,hi,nd,hw,gl,fg,⟨n,ls,rfl,el⟩,e24,q⟩
 have c2:∀ (a b:D) (xs:List D),E8 (a :: b :: xs) (some 2) none=xs:=fun a b xs=>O8 (a :: b :: xs) 2 (by simp);have ll:ls.length=F.rows.length:=by have:=congrArg List.length el;simpa using this
 delta m4 a6e;simp only [VS];left;simp only [gD,lnD,E6,VV];subst hN;left;simp only [c2,VV];subst hN;left;simp only [VV];subst hN;left;simp only [a7e,VV];refine n6 (fun p δ h'=>∃ (x6 x7 x8 x9:Option D),δ=[some (.ref i),some (.lst (D.tup [nD n,.lst (.str (Str.ofString "function") :: .str F.name :: (F.vars.take F.given).map .str)] :: ls.map lnD)),some (nD (e + ((F.rows.take p.length).map wtR).sum)),some (.lst (.str (Str.ofString "function") :: .str F.name :: (F.vars.take F.given).map .str)),some (.lst ((F.vars.take (grow F.given ((F.rows.take p.length).flatMap d8))).map .str)),some (.ref h.length),x6,x7,x8,x9]/\h'=h ++ [.lst ((F.rows.take p.length).map roD)]) ⟨none,none,none,none,rfl,rfl⟩ (fun _ _ _ _=>Src.ok_nil) ?_ ?_
 ·rintro p ⟨m,wd⟩ r δ h' N1 ep ⟨x6,x7,x8,x9,rfl,rfl⟩ hN1
  have pl:p.length < F.rows.length:=by rw [<- ll,ep];simp
  obtain ⟨R,hR⟩:∃ R,F.rows[p.length]?=some R:=⟨_,List.getElem?_eq_getElem pl⟩
  have ew:wd=l7 ws F.vars R:=by
   have h1:(ls.map (·.2))[p.length]?=some wd:=by rw [ep,List.map_append,List.getElem?_append_right (by simp)];simp
   rw [el,List.getElem?_map,hR] at h1;exact (Option.some.inj h1).symm
  subst ew;have rm:R ∈ F.rows:=List.mem_of_getElem? hR;have rg:=fg.ok R rm;have r9:=fg.rl.2;have tk:F.rows.take (p.length + 1)=F.rows.take p.length ++ [R]:=by rw [List.take_add_one,hR];rfl
  have sp:F.rows=F.rows.take p.length ++ (R :: F.rows.drop (p.length + 1)):=by
   conv=>lhs;rw [<- List.take_append_drop p.length F.rows]
   rw [List.drop_eq_getElem_cons pl,(List.getElem?_eq_some_iff.mp hR).2]
  have o1:=fg.ord;rw [sp,List.flatMap_append,List.flatMap_cons] at o1;obtain ⟨o2,o3⟩:=inOrd_app.mp o1;obtain ⟨o4,_⟩:=inOrd_app.mp o3
  have lx:∀ x ∈ (F.rows.take p.length).flatMap d8,x < F.vars.length:=fun x hx=>by
   obtain ⟨y,hy,hxy⟩:=List.mem_flatMap.mp hx;exact (fg.ok y (List.mem_of_mem_take hy)).1 x hxy
  obtain ⟨_,_,gl1,_⟩:=K7 fg.nd _ _ fg.gn lx o2;obtain ⟨mt,_,gl2,lt⟩:=K7 fg.nd (d8 R) _ gl1 rg.1 o4;have eg:grow F.given ((F.rows.take (p.length + 1)).flatMap d8)=grow (grow F.given ((F.rows.take p.length).flatMap d8)) (d8 R):=by rw [tk,List.flatMap_append,a1R];simp
  have es:e + ((F.rows.take (p.length + 1)).map wtR).sum=e + ((F.rows.take p.length).map wtR).sum + wtR R:=by rw [tk,List.map_append,List.sum_append];simp [Nat.add_assoc]
  have le24:e + ((F.rows.take p.length).map wtR).sum + wtR R <= 24:=by
   have:(F.rows.map wtR).sum=((F.rows.take p.length).map wtR).sum + (wtR R + ((F.rows.drop (p.length + 1)).map wtR).sum):=by
    conv=>lhs;rw [sp]
    rw [List.map_append,List.sum_append];simp
   omega
  have so1:∀ v ∈ F.vars.take (grow F.given ((F.rows.take p.length).flatMap d8)),PyData.strOk v=true:=fun v hv=>(u0 (fg.vs v (List.mem_of_mem_take hv))).1.1
  have so2:∀ v ∈ (d8 R).map (vn F.vars),PyData.strOk v=true:=fun v hv=>by
   obtain ⟨x,hx,rfl⟩:=List.mem_map.mp hv;exact (u0 (fg.vs _ (F1 (rg.1 x hx)))).1.1
  have v4:=fg.v4;have lo:A2 (h ++ [O.lst ((F.rows.take p.length).map roD)]) (.ref h.length)=some ((F.rows.take p.length).map roD):=G3 _ _;have rl9:(F.rows.take p.length).length=p.length:=by rw [List.length_take];omega
  have c9:((((F.rows.take p.length).map roD).length:Nat):Int) < 9:=by rw [List.length_map,rl9];omega
  have c24:((e + ((F.rows.take p.length).map wtR).sum:Nat):Int) + (wtR R:Int) <= 24:=by right
  have c4:((((F.vars.take (grow (grow F.given ((F.rows.take p.length).flatMap d8)) (d8 R))).map D.str).length:Nat):Int) <= 4:=by rw [List.length_map,List.length_take];omega
  have hi2:(h ++ [O.lst ((F.rows.take p.length).map roD)])[i]?=some (.dK (hdK ws gv)):=by rw [List.getElem?_append_left (List.getElem?_eq_some_iff.mp hi).1];exact hi
  simp only [lnD,VV];refine ⟨trivial,ws,F.vars,gv,F.rows.length,R,rfl,hw,fg.vs,r9,rg,?_⟩;left;simp only [VV];refine ⟨R,rfl,?_⟩;simp only [VV];subst hN;left;simp only [VV];refine ⟨ws,F.vars,gv,F.rows.length,R,rfl,hw,fg.vs,r9,rg,?_⟩;refine ⟨_,_,_,rfl,rfl,so1,so2,by rw [List.length_take];omega,by have:=rg.2.1;rw [List.length_map];omega,?_⟩;rw [mt];subst hN;left;simp only [a0T lo,c9,c24,c4,VV];subst hN;left;simp only [VV];have lm:(((ls.map lnD).length + 1:Nat):Int) - 1=(F.rows.length:Int):=by rw [List.length_map];omega
  refine ⟨i,ws,F.vars,gv,F.rows.length,R,by rw [lm],hi2,nd,gl,r9,rg,?_⟩;simp only [VV];subst hN;simp only [o5,VV];refine ⟨i,ws,F.vars,gv,F.rows.length,_,R,rfl,hi2,nd,gl,hw,fg.vs,fg.nd,r9,rg,lt,gl2,by right,?_⟩;simp only [o5,p8,List.length_map,VV];refine ⟨by right,hN1 _ _ ⟨some (nD m),some (.lst ((l7 ws F.vars R).map .str)),some (.str (y3 R)),some (.bl true),?_,?_⟩⟩
  ·rw [List.length_append,List.length_singleton,eg,es];rfl
  ·rw [List.length_append,List.length_singleton,tk,List.map_append];rfl
 ·rintro δ h' ⟨x6,x7,x8,x9,rfl,rfl⟩
  obtain ⟨ir,R,eR,last⟩:=fg.last;rw [ll,List.take_length,fg.all,List.take_length];subst hN;left;have lo:A2 (h ++ [O.lst (F.rows.map roD)]) (.ref h.length)=some (ir.map roD ++ [roD R]):=by rw [G3,eR,List.map_append];rfl
  have ixl:ixD (h ++ [O.lst (F.rows.map roD)]) (.ref h.length) (.int (-1))=some (roD R):=by
   rw [a0a lo];exact a2J _ _
  simp only [ixl,VV]
  have hd:∃ k,ixD (h ++ [O.lst (F.rows.map roD)]) (roD R) (.int 0)=some (.str k)/\inF (.str k) [D.str (Str.ofString "to"),D.str (Str.ofString "return")]=true:=by
   rcases last with ⟨x,rfl⟩ | ⟨x,rfl⟩
   ·exact ⟨_,rfl,by decide +kernel⟩
   ·exact ⟨_,rfl,by decide +kernel⟩
  obtain ⟨k,k1,k2⟩:=hd;simp only [k1,k2,VV];refine ⟨by rfl,?_⟩;subst hN;have l2:(((F.vars.take F.given).map D.str).length + 1 + 1:Nat) - (2:Int)=(F.given:Int):=by rw [List.length_map,List.length_take,Nat.min_eq_left fg.gn];omega
  simp only [a6o,Y0 lo,VV];rw [l2,show ir.map roD ++ [roD R]=F.rows.map roD by rw [eR,List.map_append];rfl];exact Dr.drop (a3G F) q
theorem b5G{f:Addr}{fd:FuncData}(F:Fun K "function_of" "function_of" a6w f fd)(T:Txt P w K mg)(C_q28:Cal P w K mg base 4 "sort_of" ["words"] (spD K 1 a3e))(C_q17:Cal P w K mg base 1 "edges_of" ["sort"] (spD K 1 Z2))(C_q32:Cal P w K mg base 3 "variables_in" ["sort","words"] (spD K 2 Z6))(C_q33:Cal P w K mg base 1 "with_more" ["variables","names"] (spD K 2 a3b))(C_q21:Cal P w K mg base 3 "is_there" ["heads","rows","sort","words"] (spD K 4 a3J))(C_q27:Cal P w K mg base 4 "row_of" ["heads","variables","sort","words"] (spD K 4 a3v)):t8 P w K mg base CX0 5 f fd ["heads","part","edges"] (spD K 3 a3l) :=
 B8 (k:=4) (b:=a6e) F sc_q18 (fun cdv A outer s H E hr=>by
  refine c7 ?_ ?_
  ·exact i9 (i:=3) sc_q18.nd rfl (Or.inl rfl) (d4 d3 (d4 d3 (sv 1) b7) b7)
  refine c7 ?_ ?_
  ·exact i9 (i:=4) sc_q18.nd rfl (Or.inl rfl) (G2 (sv 3) (w9 b7) y0)
  refine c7 ?_ ?_
  ·exact i9 (i:=5) sc_q18.nd rfl (Or.inl rfl) (J4 (j5 c6))
  refine c7 ?_ ?_
  ·refine z4 PassesOwn.never rfl (o9 (G2 (sv 1) (w9 b7) y0)) ?_ ?_
   ·exact F0 rfl (l4 (h6 (i:=6) sc_q18.nd rfl (Or.inl rfl)) (l4 (h6 (i:=7) sc_q18.nd rfl (Or.inl rfl)) B3))
   refine c7 ?_ ?_
   ·exact i9 (i:=8) sc_q18.nd rfl (Or.inl rfl) (h7 C_q28 (hr.mono (by decide)) rfl (a9 (sv 7) c6))
   refine c7 ?_ ?_
   ·exact b3n (i:=2) sc_q18.nd rfl (Or.inl rfl) (h7 C_q17 (hr.mono (by decide)) rfl (a9 (sv 8) c6)) a3h
   refine c7 ?_ ?_
   ·refine i9 (i:=4) sc_q18.nd rfl (Or.inl rfl) ?_;exact h7 C_q33 (hr.mono (by decide)) rfl (a9 (sv 4) (a9 (h7 C_q32 (hr.mono (by decide)) rfl (a9 (sv 8) (a9 (sv 7) c6))) c6))
   refine c7 ?_ ?_
   ·refine i9 (i:=9) sc_q18.nd rfl (Or.inl rfl) ?_;exact C0 (y4 J5 (i7 m6 rfl T.b_len PySem.boot_len (a9 (sv 5) c6)) (D5 rfl T.c_MOST_ROWS)) (C0 (y4 M3 (sv 2) (D5 rfl T.c_MOST_EDGES)) (X8 (y4 M3 (i7 m6 rfl T.b_len PySem.boot_len (a9 (sv 4) c6)) (D5 rfl T.c_MOST_VARIABLES))))
   refine c7 ?_ ?_
   ·refine m7 ?_ (c8 O4) i5;exact F7 (S5 (g9 b7O (sv 8) F2) (S5 (J0 (o0 (sv 9))) (M6 (J0 (o0 (h7 C_q21 (hr.mono (by decide)) rfl (a9 (sv 0) (a9 (d7 H9 (i7 m6 rfl T.b_len PySem.boot_len (a9 (sv 1) c6)) b7) (a9 (sv 8) (a9 (sv 7) c6))))))))))
   refine c8 ?_;refine s9 ?_;exact n9 (sv 5) (a9 (h7 C_q27 (hr.mono (by decide)) rfl (a9 (sv 0) (a9 (sv 4) (a9 (sv 8) (a9 (sv 7) c6))))) c6)
  refine c7 ?_ ?_
  ·refine m7 ?_ (c8 O4) i5;exact g9 P6 (d4 d3 (d4 d3 (sv 5) (W8 M7 b7)) b7) (o6 (a9 d6 (a9 d6 c6))) rfl
  refine c8 ?_;refine i6 ?_;refine o6 (n:=4) ?_;refine a9 (d4 d3 (sv 3) b7) ?_;refine a9 (d7 H9 (i7 m6 rfl T.b_len PySem.boot_len (a9 (sv 3) c6)) b7) ?_;refine a9 (o8 D4 rfl T.b_tuple PyProof.Rows.boot_tuple (a9 (sv 4) c6)) ?_;exact a9 (o8 D4 rfl T.b_tuple PyProof.Rows.boot_tuple (a9 (sv 5) c6)) c6) b1M
def a8b:DS:=(d9 (j7 (n8 a3q (b0 (b9 0) d2)) (d5 1))
  (d9 (m5 (j9 (dOp (pEq false) (dCB v9 (b0 (b9 1) d2)) (dC (.int 0)))) Q7 j2)
  (d9 (j7 (n8 a3D (b0 (b9 1) d2)) (d5 2))
  (d9 (j7 (n8 a3Y (b0 (b9 2) d2)) (d5 3))
  (d9 (j7 (dTk d2) (d5 4))
  (d9 (j7 (dC (.int 0)) (d5 5))
  (d9 (C9 (Q2 (b0 (b9 2) d2)) (V0 2 (p6 (d5 6) (p6 (d5 7) K5))) (d9 (v8 (n8 a3X (b0 (b9 3) (b0 (b9 6) (b0 (b9 7) d2)))))
  (d9 (j7 (n8 a3l (b0 (b9 3) (b0 (b9 7) (b0 (b9 5) d2)))) (d5 8))
  (d9 (b0X 5 (dCB b7W (b0 (dV (u5 [none] (t9 (dOp pIx (b9 8) (dC (.int 3)))) (d5 0) y8 (n8 Z2 (b0 (dOp pIx (b9 0) (dC (.int 0))) d2)))) d2)) (pI0 fun i j=>i + j))
  (v8 (q8 (b9 4) (b0 (b9 8) d2)))))))
  (j8 (b9 4)))))))))
def fW(ws:List Str)(F:Fu):List (List Str):=(Str.ofString "function" :: F.name :: F.vars.take F.given) :: F.rows.map (l7 ws F.vars)
theorem N7:∀ (Ws:List (List (List Str))) (lns:List Ln),lns.map (·.2)=Ws.flatten->∃ gs:List (List Ln),gs.flatten=lns/\gs.map (List.map (·.2))=Ws
 |[],lns,e=>⟨[],(List.map_eq_nil_iff.mp e).symm,rfl⟩
 |W :: Ws,lns,e=>by
  rw [List.flatten_cons] at e;obtain ⟨a,b,rfl,ha,hb⟩:=List.map_eq_append_iff.mp e;obtain ⟨gs,h1,h2⟩:=N7 Ws b hb;exact ⟨a :: gs,by rw [List.flatten_cons,h1],by rw [List.map_cons,ha,h2]⟩
theorem a0N:∀ (l:List Nat) (k:Nat),(∀ x ∈ l,x <= k)->l.sum <= l.length * k
 |[],_,_=>Nat.zero_le _
 |a :: l,k,h=>by
  have h1:=h a List.mem_cons_self;have h2:=a0N l k fun x hx=>h x (List.mem_cons_of_mem _ hx);rw [List.sum_cons,List.length_cons,Nat.add_mul];omega
structure PrG(Fs:List Fu):Prop where
 l6:1 <= Fs.length/\Fs.length <= 6
 nd:(Fs.map (·.name)).Nodup
 ok:∀ F ∈ Fs,FuG (Fs.map (·.name)) (Fs.map (·.given)) F
 w24:(Fs.map fun F=>(F.rows.map wtR).sum).sum <= 24
theorem b0A{ws:List Str}{F:Fu}{g:List Ln}(e:g.map (·.2)=fW ws F):b1l ws F g:=by
 unfold fW at e;obtain ⟨⟨n,w⟩,ls,rfl,h1,h2⟩:=List.map_eq_cons_iff.mp e;have h1:w=_:=h1;subst h1;exact ⟨n,ls,rfl,h2⟩
theorem b5r{ws vs:List Str}{gv:List Nat}{m:Nat}{r:Rw}(hv:NG vs)(hg:L6 ws vs gv m r):∃ w wr,l7 ws vs r=w :: wr/\PyData.strOk w=true/\(w == Str.ofString "function")=false:=by
 have nm:∀ x ∈ d8 r,PyData.strOk (vn vs x)=true/\(vn vs x == Str.ofString "function")=false:=fun x hx=>by
  have:=hv _ (F1 (hg.1 x hx))
  exact ⟨(u0 this).1.1,a4w this (by decide +kernel)⟩
 cases r with
 |num x k=>exact ⟨_,_,rfl,nm x (by simp [d8])⟩
 |copy x k=>exact ⟨_,_,rfl,nm x (by simp [d8])⟩
 |does x o y z=>exact ⟨_,_,rfl,nm x (by simp [d8])⟩
 |call x g ys=>exact ⟨_,_,rfl,nm x (by simp [d8])⟩
 |dye x=>exact ⟨_,_,rfl,by decide +kernel,by decide +kernel⟩
 |wash x=>exact ⟨_,_,rfl,by decide +kernel,by decide +kernel⟩
 |ifq x q=>exact ⟨_,_,rfl,by decide +kernel,by decide +kernel⟩
 |to q=>exact ⟨_,_,rfl,by decide +kernel,by decide +kernel⟩
 |ret x=>exact ⟨_,_,rfl,by decide +kernel,by decide +kernel⟩
theorem a6P{ws:List Str}{gv:List Nat}{F:Fu}{g:List Ln}(fg:FuG ws gv F)(h:b1l ws F g):a2O g:=by
 obtain ⟨n,ls,rfl,el⟩:=h;refine ⟨_,_,rfl,⟨_,rfl⟩,fun x hx=>?_⟩
 have:x.2 ∈ ls.map (·.2):=List.mem_map_of_mem hx
 rw [el] at this;obtain ⟨r,hr,er⟩:=List.mem_map.mp this;obtain ⟨w,wr,e,s,z⟩:=b5r fg.vs (fg.ok r hr);exact ⟨w,wr,er.symm.trans e,s,z⟩
theorem a1k:∀ l:List Rw,(l.map fun r=>(wtR r:Int)).sum=((l.map wtR).sum:Nat)
 |[]=>rfl
 |r :: l=>by rw [List.map_cons,List.map_cons,List.sum_cons,List.sum_cons,a1k l,Int.natCast_add]
def X7:DSp:=fun ds h Q=>∃ (Fs:List Fu) (ts:List Str),ds=[.str (Str.join ⟨#[10]⟩ ts)]/\PrG Fs/\ts ≠ []/\(∀ t ∈ ts,10 ∉ cl t/\PyData.strOk t=true)/\(Str.join ⟨#[10]⟩ ts).length <= 1000000/\ts.length <= 100000/\(ts.map wsS).filter (fun w=>decide (w ≠ []))=(Fs.map (fW (Fs.map (·.name)))).flatten/\Q (.ref (h.length + 1)) (h ++ [O.dK (hdK (Fs.map (·.name)) (Fs.map (·.given)))] ++ [.lst (Fs.map fuD)])
theorem b0f:∀ ds h Q,X7 ds h Q->m4 9 a8b ds h Q:=by
 rintro ds h Q ⟨Fs,ts,rfl,pg,ne,ok,tl,tn,ew,q⟩
 delta m4 a8b;simp only [VS];left;simp only [VV];refine ⟨ts,rfl,ne,ok,tl,tn,fun lns el=>?_⟩;rw [ew] at el;obtain ⟨gs,rfl,eg⟩:=N7 _ _ el;have gl:gs.length=Fs.length:=by have:=congrArg List.length eg;simpa using this
 have gf:∀ (f:Nat) (g:List Ln) (F:Fu),gs[f]?=some g->Fs[f]?=some F->b1l (Fs.map (·.name)) F g:=fun f g F h1 h2=>by
  have:=congrArg (fun l=>l[f]?) eg
  simp only [List.getElem?_map,h1,h2,Option.map_some] at this;exact b0A (Option.some.inj this)
 have f1:∀ (f:Nat) (g:List Ln),gs[f]?=some g->∃ F,Fs[f]?=some F:=fun f g h1=>⟨_,List.getElem?_eq_getElem (by have:=(List.getElem?_eq_some_iff.mp h1).1;omega)⟩
 have gk:∀ g ∈ gs,a2O g:=fun g hg=>by
  obtain ⟨f,hf⟩:=List.getElem?_of_mem hg;obtain ⟨F,hF⟩:=f1 f g hf;exact a6P (pg.ok F (List.mem_of_getElem? hF)) (gf f g F hf hF)
 have g10:∀ g ∈ gs,1 <= g.length/\g.length <= 10:=fun g hg=>by
  obtain ⟨f,hf⟩:=List.getElem?_of_mem hg;obtain ⟨F,hF⟩:=f1 f g hf;obtain ⟨n,ls,rfl,el⟩:=gf f g F hf hF
  have:=(pg.ok F (List.mem_of_getElem? hF)).rl
  have:=congrArg List.length el
  simp at this ⊢;omega
 have l60:gs.flatten.length <= 60:=by
  rw [List.length_flatten]
  have:=a0N (gs.map List.length) 10 fun x hx=>by
   obtain ⟨g,hg,rfl⟩:=List.mem_map.mp hx;exact (g10 g hg).2
  rw [List.length_map] at this
  have:=pg.l6
  omega
 have l1:1 <= gs.flatten.length:=by
  have:=pg.l6
  obtain ⟨g,g0⟩:∃ g,gs[0]?=some g:=⟨_,List.getElem?_eq_getElem (by right)⟩
  have:=(g10 _ (List.mem_of_getElem? g0)).1
  have hm:=List.Sublist.length_le (List.sublist_flatten_of_mem (List.mem_of_getElem? g0));omega
 have lz:((((gs.flatten.map lnD).length:Nat):Int) == 0)=false:=beq_eq_false_iff_ne.mpr (by rw [List.length_map];omega)
 have hok:a3c (Fs.map (·.name)) (Fs.map (·.given)) gs:=by
  refine ⟨by rw [List.length_map];exact gl,by rw [List.length_map,List.length_map],fun f g w k hg hw hk=>?_⟩;obtain ⟨F,hF⟩:=f1 f g hg;obtain ⟨n,ls,rfl,el⟩:=gf f g F hg hF;rw [List.getElem?_map,hF] at hw hk;have hw:=Option.some.inj hw;have hk:=Option.some.inj hk;subst hw hk;exact ⟨n,_,ls,rfl,by rw [List.length_take,Nat.min_eq_left (pg.ok F (List.mem_of_getElem? hF)).gn]⟩
 have g100:∀ k ∈ Fs.map (·.given),k <= 100:=fun k hk=>by
  obtain ⟨F,hF,rfl⟩:=List.mem_map.mp hk
  have:=(pg.ok F hF).gn
  have:=(pg.ok F hF).v4
  omega
 subst hN;left;simp only [lz,VV];subst hN;left;simp only [VV];refine ⟨gs,rfl,gk,by right,?_⟩;subst hN;left;simp only [VV];refine ⟨_,_,gs,rfl,hok,pg.nd,by rw [List.length_map];exact pg.l6.2,g100,?_⟩;subst hN;left;simp only [VV];subst hN;left;simp only [VV];subst hN;left;simp only [VV];rw [show (fun g:List Ln=>D.lst (g.map lnD))=gD from rfl,C4];refine n6 (fun p δ h'=>∃ (x6 x7 x8:Option D),δ=[some (.str (Str.join ⟨#[10]⟩ ts)),some (.lst (gs.flatten.map lnD)),some (.lst (gs.map gD)),some (.ref h.length),some (.ref (h ++ [O.dK (hdK (Fs.map (·.name)) (Fs.map (·.given)))]).length),some (nD ((Fs.take p.length).map fun F=>(F.rows.map wtR).sum).sum),x6,x7,x8]/\h'=h ++ [O.dK (hdK (Fs.map (·.name)) (Fs.map (·.given)))] ++ [.lst ((Fs.take p.length).map fuD)]) ⟨none,none,none,rfl,rfl⟩ (fun _ _ _ _=>Src.ok_nil) ?_ ?_
 ·rintro p ⟨g,f⟩ r δ h' N1 e ⟨x6,x7,x8,rfl,rfl⟩ hN1
  obtain ⟨hf,hg⟩:=S4 e;subst hf;obtain ⟨F,hF⟩:=f1 _ g hg;have pl:=(List.getElem?_eq_some_iff.mp hF).1;have fg:=pg.ok F (List.mem_of_getElem? hF);have gF:=gf _ g F hg hF;obtain ⟨n,ls,eg2,el2⟩:=id gF;have tk:Fs.take (p.length + 1)=Fs.take p.length ++ [F]:=by rw [List.take_add_one,hF];rfl
  have es:((Fs.take (p.length + 1)).map fun F=>(F.rows.map wtR).sum).sum=((Fs.take p.length).map fun F=>(F.rows.map wtR).sum).sum + (F.rows.map wtR).sum:=by rw [tk,List.map_append,List.sum_append];simp
  have sp:Fs=Fs.take p.length ++ (F :: Fs.drop (p.length + 1)):=by
   conv=>lhs;rw [<- List.take_append_drop p.length Fs]
   rw [List.drop_eq_getElem_cons pl,(List.getElem?_eq_some_iff.mp hF).2]
  have le24:((Fs.take p.length).map fun F=>(F.rows.map wtR).sum).sum + (F.rows.map wtR).sum <= 24:=by
   have h1:(Fs.map fun F=>(F.rows.map wtR).sum).sum=((Fs.take p.length).map fun F=>(F.rows.map wtR).sum).sum + ((F.rows.map wtR).sum + ((Fs.drop (p.length + 1)).map fun F=>(F.rows.map wtR).sum).sum):=by
    conv=>lhs;rw [sp]
    rw [List.map_append,List.sum_append];simp
   have:=pg.w24
   omega
  have hi:(h ++ [O.dK (hdK (Fs.map (·.name)) (Fs.map (·.given)))] ++ [O.lst ((Fs.take p.length).map fuD)])[h.length]?=some (.dK (hdK (Fs.map (·.name)) (Fs.map (·.given)))):=by
   rw [List.append_assoc,List.getElem?_append_right (Nat.le_refl _),Nat.sub_self];rfl
  have hlen:((Fs.map (·.given)).length)=(Fs.map (·.name)).length:=by rw [List.length_map,List.length_map]
  have hw:(Fs.map (·.name))[p.length]?=some F.name:=by rw [List.getElem?_map,hF];rfl
  have hk:(Fs.map (·.given))[p.length]?=some F.given:=by rw [List.getElem?_map,hF];rfl
  have NW:NG (Fs.map (·.name)):=fun v hv=>by
   obtain ⟨G,hG,rfl⟩:=List.mem_map.mp hv;exact (pg.ok G hG).nm
  have l6:=pg.l6;have v4:=fg.v4;have gn:=fg.gn;have rl:=fg.rl;have el3:=congrArg List.length el2;rw [List.length_map,List.length_map] at el3;simp only [VV];refine ⟨trivial,h.length,_,_,p.length,n,F.given,F.name,F.vars.take F.given,ls,by rw [eg2,Int.zero_add],hi,pg.nd,hlen,hw,hk,by rw [List.length_take,Nat.min_eq_left gn],by right,by right,fg.nm,fun v hv=>fg.vs v (List.mem_of_mem_take hv),List.Sublist.nodup (List.take_sublist _ _) fg.nd,by right,?_⟩;left;simp only [VV];refine ⟨h.length,_,_,F,g,_,rfl,hi,pg.nd,NW,hlen,fg,gF,le24,?_⟩;subst hN;left;simp only [fuD,VV];refine ⟨by rw [List.length_map];omega,?_⟩;refine z6 (fun r:Rw=>nD (wtR r)) Src.ok_nil none (fun r hr K kk=>?_) ?_
  ·have ix:∀ h:Hh,ixD h (roD r) (.int 0)=some (.str (y3 r)):=fun h=>by cases r <;> rfl
   simp only [ix,VV];exact ⟨r,rfl,kk⟩
  refine ⟨_,F.rows.map fun r=>(wtR r:Int),rfl,by rw [List.map_map];rfl,?_⟩;subst hN;simp only [o5,p8,List.length_map,VV];refine ⟨by rw [List.length_take];omega,hN1 _ _ ⟨some (.int (0 + (p.length:Int))),some (gD g),some (fuD F),?_,?_⟩⟩
  ·have cs:(F.rows.map fun r=>(wtR r:Int)).sum=((F.rows.map wtR).sum:Nat):=a1k F.rows;rw [show (p ++ [(g,p.length)]).length=p.length + 1 by simp,es,cs,<- Int.natCast_add];rfl
  ·rw [show (p ++ [(g,p.length)]).length=p.length + 1 by simp,tk,List.map_append];rfl
 ·rintro δ h' ⟨x6,x7,x8,rfl,rfl⟩
  rw [show gs.zipIdx.length=Fs.length by rw [List.length_zipIdx,gl],List.take_length];subst hN;simp only [VV];rw [List.length_append,List.length_singleton];exact q
theorem b6P{f:Addr}{fd:FuncData}(F:Fun K "read" "read" a6T f fd)(T:Txt P w K mg)(C_q23:Cal P w K mg base 1 "lines_of" ["text"] (spD K 1 a3q))(C_q25:Cal P w K mg base 1 "parts_of" ["lines"] (spD K 1 a3D))(C_q19:Cal P w K mg base 1 "heads_of" ["parts"] (spD K 1 a3Y))(C_q16:Cal P w K mg base 3 "check_head" ["heads","f","part"] (spD K 3 a3X))(C_q18:Cal P w K mg base 5 "function_of" ["heads","part","edges"] (spD K 3 a3l))(C_q17:Cal P w K mg base 1 "edges_of" ["sort"] (spD K 1 Z2)):t8 P w K mg base CX0 6 f fd ["text"] (spD K 1 X7) :=
 x0 (k:=5) (b:=a8b) F sc_q26 (fun cdv A outer s H E hr=>by
  refine c7 ?_ ?_
  ·exact i9 (i:=1) sc_q26.nd rfl (Or.inl rfl) (h7 C_q23 (hr.mono (by decide)) rfl (a9 (sv 0) c6))
  refine c7 ?_ ?_
  ·refine m7 ?_ (c8 O4) i5;exact g9 (j6 hr.units) (i7 m6 rfl T.b_len PySem.boot_len (a9 (sv 1) c6)) b7
  refine c7 ?_ ?_
  ·exact i9 (i:=2) sc_q26.nd rfl (Or.inl rfl) (h7 C_q25 (hr.mono (by decide)) rfl (a9 (sv 1) c6))
  refine c7 ?_ ?_
  ·exact i9 (i:=3) sc_q26.nd rfl (Or.inl rfl) (h7 C_q19 (hr.mono (by decide)) rfl (a9 (sv 2) c6))
  refine c7 ?_ ?_
  ·exact i9 (i:=4) sc_q26.nd rfl (Or.inl rfl) (J4 (j5 c6))
  refine c7 ?_ ?_
  ·exact i9 (i:=5) sc_q26.nd rfl (Or.inl rfl) b7
  refine c7 ?_ (c8 (i6 (sv 4)));refine z4 PassesOwn.never rfl (O3 rfl T.b_enumerate (a9 (sv 2) c6)) ?_ ?_
  ·exact F0 rfl (l4 (h6 (i:=6) sc_q26.nd rfl (Or.inl rfl)) (l4 (h6 (i:=7) sc_q26.nd rfl (Or.inl rfl)) B3))
  refine c7 ?_ ?_
  ·refine s9 ?_;exact h7 C_q16 (hr.mono (by decide)) rfl (a9 (sv 3) (a9 (sv 6) (a9 (sv 7) c6)))
  refine c7 ?_ ?_
  ·refine i9 (i:=8) sc_q26.nd rfl (Or.inl rfl) ?_;exact h7 C_q18 (hr.mono (by decide)) rfl (a9 (sv 3) (a9 (sv 7) (a9 (sv 5) c6)))
  refine c7 ?_ (c8 (s9 (n9 (sv 4) (a9 (sv 8) c6))));exact b3n (i:=5) sc_q26.nd rfl (Or.inl rfl) (i7 (b4V rfl) rfl T.b_sum PyProof.Rows.boot_sum (a9 (p4 (p9 rfl (N':= ["row"]) (js:=[none]) ⟨rfl,by decide +kernel,rfl,rfl,rfl⟩ (o9 (d4 d3 (sv 8) b7)) (fun s0 H0 fp=>⟨(h6 (i:=0) (show (["row"]:List Str).Nodup by decide +kernel) rfl (Or.inl rfl)),u2,(h7 C_q17 (hr.mono (by decide)) rfl (a9 (d4 d3 (sv 0) b7) c6))⟩))) c6)) a3h) b0f
def a7H:DS:=(d9 (m5 (j9 (dOp (pEq false) (dOp pIx (b9 2) (dC (.int 0))) (dC (.str "number")))) (j8 (dV (b0 (dCB M9 (b0 (dOp pIx (b9 2) (dC (.int 2))) d2)) d2))) j2)
  (d9 (m5 (j9 (dOp (pEq false) (dOp pIx (b9 2) (dC (.int 0))) (dC (.str "copy")))) (j8 (dV (b0 (dOp pIx (b9 1) (dOp pIx (b9 2) (dC (.int 2)))) d2))) j2)
  (d9 (m5 (j9 (dOp (pEq false) (dOp pIx (b9 2) (dC (.int 0))) (dC (.str "does")))) (j8 (dV (b0 (dOp pIx (b9 1) (dOp pIx (b9 2) (dC (.int 3)))) (b0 (dOp pIx (b9 2) (dC (.int 2))) (b0 (dOp pIx (b9 1) (dOp pIx (b9 2) (dC (.int 4)))) d2))))) j2)
  (j8 (dOp m3 (dV (b0 (dC (.str "call")) (b0 (dOp pIx (dOp pIx (b9 0) (dOp pIx (b9 2) (dC (.int 2)))) (dC (.int 0))) d2))) (dV (u5 [none,some 1] (t9 (dOp pIx (b9 2) (dC (.int 3)))) (d5 0) y8 (dOp pIx (b9 1) (b9 0)))))))))
def b9X(r:Rw):Prop:=(∃ x k,r = .num x k)\/(∃ x y,r = .copy x y)\/(∃ x o y z,r = .does x o y z)\/∃ x g ys,r = .call x g ys
def a2S:DSp:=fun ds h Q=>∃ (Fs:List Fu) (vs:List Str) (gv:List Nat) (many:Nat) (r:Rw),ds=[.lst (Fs.map fuD),.tup (vs.map .str),roD r]/\L6 (Fs.map (·.name)) vs gv many r/\b9X r/\Q (.lst (((l7 (Fs.map (·.name)) vs r).drop 2).map .str)) h
theorem v7{vs:List Str}{x:Nat}(h:x < vs.length):atI (vs.map D.str) (x:Int)=some (D.str (vn vs x)):=by
 rw [atN,List.getElem?_map,List.getElem?_eq_getElem h];unfold vn;rw [List.getD_eq_getElem?_getD,List.getElem?_eq_getElem h];rfl
theorem b8d{Fs:List Fu}{g:Nat}(h:g < (Fs.map (·.name)).length):∃ F:Fu,atI (Fs.map fuD) (g:Int)=some (fuD F)/\F.name=vn (Fs.map (·.name)) g:=by
 have h':g < Fs.length:=by rw [List.length_map] at h;exact h
 refine ⟨Fs[g],by rw [atN,List.getElem?_map,List.getElem?_eq_getElem h'];rfl,?_⟩;unfold vn;rw [List.getD_eq_getElem?_getD,List.getElem?_map,List.getElem?_eq_getElem h'];rfl
theorem Z5:(Str.ofString "number" == Str.ofString "number")=true:=beq_self_eq_true _
theorem R7{k:Int}(h:0 <= k):Str.ofString (toString k)=tx k.toNat:=by
 unfold tx;rw [Int.toNat_of_nonneg h]
theorem C6{k:Int}(h0:0 <= k)(h:k < 10 ^ 19):k.natAbs.log2 < 1920:=by
 by_cases z:k.natAbs=0
 ·rw [z];decide
 ·refine (Nat.log2_lt z).mpr (Nat.lt_of_lt_of_le (m:=10 ^ 19) (by right) (by decide +kernel))
theorem b0c:∀ ds h Q,a2S ds h Q->m4 3 a7H ds h Q:=by
 rintro ds h Q ⟨Fs,vs,gv,many,r,rfl,hg,k,q⟩
 delta m4 a7H;simp only [VS];left
 rcases k with ⟨x,k,rfl⟩ | ⟨x,y,rfl⟩ | ⟨x,o,y,z,rfl⟩ | ⟨x,g,ys,rfl⟩
 ·have hk:0 <= k/\k < 10 ^ 18:=hg.2.2;simp only [roD,Z5,M9,VV];refine ⟨C6 hk.1 (by right),?_⟩;rw [R7 hk.1];exact q
 ·have e1:=v7 (hg.1 y (by simp [d8]));simp only [roD,U0,VV];subst hN;left;simp only [e1,VV];exact q
 ·have e1:=v7 (hg.1 y (by simp [d8]));have e2:=v7 (hg.1 z (by simp [d8]));simp only [roD,N0,VV];subst hN;left;simp only [VV];subst hN;left;simp only [e1,e2,VV];exact q
 ·obtain ⟨F,e1,e2⟩:=b8d hg.2.2.1;have l10:ys.length < 10:=hg.2.1;simp only [roD,K9,VV];subst hN;left;simp only [VV];subst hN;left;simp only [VV];subst hN;simp only [e1,fuD,VV];refine ⟨by rw [List.length_map];omega,?_⟩;refine z6 (fun x:Nat=>D.str (vn vs x)) Src.ok_nil none (fun y hy K kk=>?_) ?_
  ·have e3:=v7 (hg.1 y (List.mem_cons_of_mem _ hy));simp only [e3,VV];exact kk
  refine ⟨by rw [List.length_map];omega,?_⟩;rw [e2];have q:Q (.lst (D.str (Str.ofString "call") :: D.str (vn (Fs.map (·.name)) g) :: (ys.map (vn vs)).map D.str)) h:=q;rw [List.map_map] at q;exact q
theorem b4g{f:Addr}{fd:FuncData}(F:Fun K "value_words" "value_words" a8u f fd)(T:Txt P w K mg):t8 P w K mg base CX0 1 f fd ["program","variables","row"] (spD K 3 a2S) :=
 x0 (k:=0) (b:=a7H) F b4J (fun cdv A outer s H E hr=>by
  refine c7 ?_ ?_
  ·refine m7 (g9 (j6 hr.units) (d4 d3 (sv 2) b7) d6) ?_ i5;refine c8 ?_;refine i6 ?_;refine p4 ?_;refine j5 (n:=1) ?_;refine a9 ?_ c6;exact o8 R8 rfl T.b_str PyProof.Rows.boot_str (a9 (d4 d3 (sv 2) b7) c6)
  refine c7 ?_ ?_
  ·refine m7 (g9 (j6 hr.units) (d4 d3 (sv 2) b7) d6) ?_ i5;refine c8 ?_;refine i6 ?_;refine p4 ?_;refine j5 (n:=1) ?_;exact a9 (d4 d3 (sv 1) (d4 d3 (sv 2) b7)) c6
  refine c7 ?_ ?_
  ·refine m7 (g9 (j6 hr.units) (d4 d3 (sv 2) b7) d6) ?_ i5;refine c8 ?_;refine i6 ?_;refine p4 ?_;refine j5 (n:=3) ?_;refine a9 (d4 d3 (sv 1) (d4 d3 (sv 2) b7)) ?_;refine a9 (d4 d3 (sv 2) b7) ?_;exact a9 (d4 d3 (sv 1) (d4 d3 (sv 2) b7)) c6
  refine c8 ?_;refine i6 ?_;exact d7 j0 (p4 (j5 (a9 d6 (a9 (d4 d3 (d4 d3 (sv 0) (d4 d3 (sv 2) b7)) b7) c6)))) (p4 (p9 rfl (N':= ["v","variables"]) (js:=[none,some 1]) ⟨rfl,by decide +kernel,rfl,rfl,rfl⟩ (o9 (d4 d3 (sv 2) b7)) (fun s0 H0 fp=>⟨(h6 (i:=0) (show (["v","variables"]:List Str).Nodup by decide +kernel) rfl (Or.inl rfl)),u2,(d4 d3 (sv 1) (sv 0))⟩)))) b0c
def a7F:DS:=(d9 (j7 (dOp pIx (b9 2) (dC (.int 0))) (d5 3))
  (d9 (m5 (j9 (dOp (pEq false) (b9 3) (dC (.str "to")))) (j8 (dV (b0 (dC (.str "to")) (b0 (dCB M9 (b0 (dOp m3 (dOp pIx (b9 2) (dC (.int 1))) (dC (.int 1))) d2)) d2)))) j2)
  (d9 (j7 (dOp pIx (b9 1) (dOp pIx (b9 2) (dC (.int 1)))) (d5 4))
  (d9 (m5 (j9 (dOp (pEq false) (b9 3) (dC (.str "if")))) (j8 (dV (b0 (dC (.str "if")) (b0 (b9 4) (b0 (dC (.str "to")) (b0 (dCB M9 (b0 (dOp m3 (dOp pIx (b9 2) (dC (.int 2))) (dC (.int 1))) d2)) d2)))))) j2)
  (d9 (m5 (j9 (dOp (pIn false) (b9 3) (A0 (b0 (dC (.str "dye")) (b0 (dC (.str "wash")) (b0 (dC (.str "return")) d2)))))) (j8 (dV (b0 (b9 3) (b0 (b9 4) d2)))) j2)
  (j8 (dOp m3 (dV (b0 (b9 4) (b0 (dC (.str "=")) d2))) (n8 a2S (b0 (b9 0) (b0 (b9 1) (b0 (b9 2) d2)))))))))))
def a3n:DSp:=fun ds h Q=>∃ (Fs:List Fu) (vs:List Str) (gv:List Nat) (many:Nat) (r:Rw),ds=[.lst (Fs.map fuD),.tup (vs.map .str),roD r]/\many <= 9/\L6 (Fs.map (·.name)) vs gv many r/\Q (.lst ((l7 (Fs.map (·.name)) vs r).map .str)) h
theorem N9(ws vs:List Str)(r:Rw):(l7 ws vs r).length <= 4 + (d8 r).length:=by
 cases r <;> simp [l7,d8] <;> omega
theorem b4L:inF (D.str (Str.ofString "dye")) [D.str (Str.ofString "dye"),D.str (Str.ofString "wash"),D.str (Str.ofString "return")]=true:=by decide +kernel
theorem b0d:inF (D.str (Str.ofString "wash")) [D.str (Str.ofString "dye"),D.str (Str.ofString "wash"),D.str (Str.ofString "return")]=true:=by decide +kernel
theorem b3R:inF (D.str (Str.ofString "return")) [D.str (Str.ofString "dye"),D.str (Str.ofString "wash"),D.str (Str.ofString "return")]=true:=by decide +kernel
theorem b3E:inF (D.str (Str.ofString "number")) [D.str (Str.ofString "dye"),D.str (Str.ofString "wash"),D.str (Str.ofString "return")]=false:=by decide +kernel
theorem b0x:inF (D.str (Str.ofString "copy")) [D.str (Str.ofString "dye"),D.str (Str.ofString "wash"),D.str (Str.ofString "return")]=false:=by decide +kernel
theorem b0S:inF (D.str (Str.ofString "does")) [D.str (Str.ofString "dye"),D.str (Str.ofString "wash"),D.str (Str.ofString "return")]=false:=by decide +kernel
theorem b0y:inF (D.str (Str.ofString "call")) [D.str (Str.ofString "dye"),D.str (Str.ofString "wash"),D.str (Str.ofString "return")]=false:=by decide +kernel
theorem b0U:∀ ds h Q,a3n ds h Q->m4 5 a7F ds h Q:=by
 rintro ds h Q ⟨Fs,vs,gv,many,r,rfl,m9,hg,q⟩
 delta m4 a7F;simp only [VS];left
 cases r with
 |to a =>
  have ha:a < many:=hg.2.2;simp only [roD,VV];subst hN;left;simp only [M9,VV];refine ⟨C6 (by right) (by right),?_⟩;rw [R7 (by right)];exact q
 |ifq x a =>
  have ha:a < many:=hg.2.2;have e1:=v7 (hg.1 x (by simp [d8]));simp only [roD,VV];subst hN;left;simp only [VV];subst hN;left;simp only [e1,VV];subst hN;left;simp only [M9,VV];refine ⟨C6 (by right) (by right),?_⟩;rw [R7 (by right)];exact q
 |dye x =>
  have e1:=v7 (hg.1 x (by simp [d8]));simp only [roD,VV];subst hN;left;simp only [VV];subst hN;left;simp only [e1,VV];subst hN;left;simp only [VV];subst hN;left;simp only [b4L,VV];exact ⟨by rfl,q⟩
 |wash x =>
  have e1:=v7 (hg.1 x (by simp [d8]));simp only [roD,VV];subst hN;left;simp only [VV];subst hN;left;simp only [e1,VV];subst hN;left;simp only [VV];subst hN;left;simp only [b0d,VV];exact ⟨by rfl,q⟩
 |ret x =>
  have e1:=v7 (hg.1 x (by simp [d8]));simp only [roD,VV];subst hN;left;simp only [VV];subst hN;left;simp only [e1,VV];subst hN;left;simp only [VV];subst hN;left;simp only [b3R,VV];exact ⟨by rfl,q⟩
 |num x k =>
  have e1:=v7 (hg.1 x (by simp [d8]));simp only [roD,VV];subst hN;left;simp only [VV];subst hN;left;simp only [e1,VV];subst hN;left;simp only [VV];subst hN;left;simp only [b3E,VV];refine ⟨by rfl,?_⟩;subst hN;simp only [VV];refine ⟨Fs,vs,gv,many,_,rfl,hg,.inl ⟨_,_,rfl⟩,?_⟩;simp only [VV];exact ⟨by rw [List.length_map,List.length_drop];have:=N9 (Fs.map (·.name)) vs (.num x k);have:=hg.2.1;omega,q⟩
 |copy x y =>
  have e1:=v7 (hg.1 x (by simp [d8]));simp only [roD,VV];subst hN;left;simp only [VV];subst hN;left;simp only [e1,VV];subst hN;left;simp only [VV];subst hN;left;simp only [b0x,VV];refine ⟨by rfl,?_⟩;subst hN;simp only [VV];refine ⟨Fs,vs,gv,many,_,rfl,hg,.inr (.inl ⟨_,_,rfl⟩),?_⟩;simp only [VV];exact ⟨by rw [List.length_map,List.length_drop];have:=N9 (Fs.map (·.name)) vs (.copy x y);have:=hg.2.1;omega,q⟩
 |does x o y z =>
  have e1:=v7 (hg.1 x (by simp [d8]));simp only [roD,VV];subst hN;left;simp only [VV];subst hN;left;simp only [e1,VV];subst hN;left;simp only [VV];subst hN;left;simp only [b0S,VV];refine ⟨by rfl,?_⟩;subst hN;simp only [VV];refine ⟨Fs,vs,gv,many,_,rfl,hg,.inr (.inr (.inl ⟨_,_,_,_,rfl⟩)),?_⟩;simp only [VV];exact ⟨by rw [List.length_map,List.length_drop];have:=N9 (Fs.map (·.name)) vs (.does x o y z);have:=hg.2.1;omega,q⟩
 |call x g ys =>
  have e1:=v7 (hg.1 x (by simp [d8]));simp only [roD,VV];subst hN;left;simp only [VV];subst hN;left;simp only [e1,VV];subst hN;left;simp only [VV];subst hN;left;simp only [b0y,VV];refine ⟨by rfl,?_⟩;subst hN;simp only [VV];refine ⟨Fs,vs,gv,many,_,rfl,hg,.inr (.inr (.inr ⟨_,_,_,rfl⟩)),?_⟩;simp only [VV];exact ⟨by rw [List.length_map,List.length_drop];have:=N9 (Fs.map (·.name)) vs (.call x g ys);have:=hg.2.1;omega,q⟩
theorem b3V{f:Addr}{fd:FuncData}(F:Fun K "words_of" "words_of" a8p f fd)(T:Txt P w K mg)(C_q31:Cal P w K mg base 1 "value_words" ["program","variables","row"] (spD K 3 a2S)):t8 P w K mg base CX0 2 f fd ["program","variables","row"] (spD K 3 a3n) :=
 x0 (k:=1) (b:=a7F) F sc_q34 (fun cdv A outer s H E hr=>by
  refine c7 ?_ ?_
  ·exact i9 (i:=3) sc_q34.nd rfl (Or.inl rfl) (d4 d3 (sv 2) b7)
  refine c7 ?_ ?_
  ·refine m7 (g9 (j6 hr.units) (sv 3) d6) ?_ i5;refine c8 ?_;refine i6 ?_;refine p4 ?_;refine j5 (n:=2) ?_;refine a9 d6 ?_;refine a9 ?_ c6;exact o8 R8 rfl T.b_str PyProof.Rows.boot_str (a9 (d7 j0 (d4 d3 (sv 2) b7) b7) c6)
  refine c7 ?_ ?_
  ·exact i9 (i:=4) sc_q34.nd rfl (Or.inl rfl) (d4 d3 (sv 1) (d4 d3 (sv 2) b7))
  refine c7 ?_ ?_
  ·refine m7 (g9 (j6 hr.units) (sv 3) d6) ?_ i5;refine c8 ?_;refine i6 ?_;refine p4 ?_;refine j5 (n:=4) ?_;refine a9 d6 ?_;refine a9 (sv 4) ?_;refine a9 d6 ?_;refine a9 ?_ c6;exact o8 R8 rfl T.b_str PyProof.Rows.boot_str (a9 (d7 j0 (d4 d3 (sv 2) b7) b7) c6)
  refine c7 ?_ ?_
  ·refine m7 (g9 a6M (sv 3) (o6 (a9 d6 (a9 d6 (a9 d6 c6)))) rfl) ?_ i5;refine c8 ?_;refine i6 ?_;refine p4 ?_;exact j5 (a9 (sv 3) (a9 (sv 4) c6))
  refine c8 ?_;refine i6 ?_;exact d7 j0 (p4 (j5 (a9 (sv 4) (a9 d6 c6)))) (h7 C_q31 (hr.mono (by decide)) rfl (a9 (sv 0) (a9 (sv 1) (a9 (sv 2) c6))))) b0U
def a6Q:DS:=(d9 (j7 (dTk d2) (d5 1))
  (d9 (C9 (t9 (b9 0)) (V0 4 (p6 (d5 2) (p6 (d5 3) (p6 (d5 4) (p6 (d5 5) K5))))) (d9 (v8 (q8 (b9 1) (b0 (dOp m3 (dV (b0 (dC (.str "function")) (b0 (b9 2) d2))) (dV (O5 (b0 (dSl (b9 4) u9 (D2 (b9 3))) d2)))) d2)))
  (v8 (U1 (b9 1) (b0 (dV (u5 [none,some 0,some 4] (t9 (b9 5)) (d5 0) y8 (n8 a3n (b0 (b9 1) (b0 (b9 2) (b0 (b9 0) d2)))))) d2)))))
  (j8 (S9 (dC (.str "\n")) (b0 (dV (u5 [none] (t9 (b9 1)) (d5 0) y8 (S9 (dC (.str " ")) (b0 (b9 0) d2)))) d2)))))
def sp:Str:=⟨#[32]⟩
def nl:Str:=⟨#[10]⟩
theorem a2b:Str.ofString " " = sp:=by decide +kernel
theorem b0i:Str.ofString "\n" = nl:=by decide +kernel
def gw(w:Str):Prop:=TOk w 18/\cl w ≠ []/\∀ c ∈ cl w,33 <= c/\c <= 126
theorem U5{v:Str}(h:isN v=true):gw v:=by
 obtain ⟨h1,h2,h3,_⟩:=u0 h;exact ⟨⟨h1.1,Nat.le_trans h1.2 (by decide)⟩,h2,fun c z=>by have:=h3 _ z;omega⟩
theorem a8m{n:Nat}(h:n < 10 ^ 18):gw (tx n):=by
 obtain ⟨h1,_,_,_,h4,h5⟩:=B4 h;exact ⟨h1,h4,fun c z=>by have:=h5 _ z;omega⟩
theorem b2U{o:Str}(h:o ∈ W0):gw o:=by
 unfold W0 at h
 rcases List.mem_cons.mp h with rfl | h
 ·exact ⟨⟨by decide +kernel,by decide +kernel⟩,by decide +kernel,by decide +kernel⟩
 rcases List.mem_cons.mp h with rfl | h
 ·exact ⟨⟨by decide +kernel,by decide +kernel⟩,by decide +kernel,by decide +kernel⟩
 rcases List.mem_cons.mp h with rfl | h
 ·exact ⟨⟨by decide +kernel,by decide +kernel⟩,by decide +kernel,by decide +kernel⟩
 ·exact nomatch h
def keptW:List Str:= ["function","to","if","=","call","dye","wash","return"]
theorem a2M:∀ w ∈ keptW,gw w:=by
 have:keptW.all (fun w=>PyData.strOk w && decide (w.length <= 18) && decide (cl w ≠ []) && decide (∀ c ∈ cl w,33 <= c/\c <= 126))=true:=by decide +kernel
 intro w hw
 have:=List.all_eq_true.mp this w hw
 simp only [Bool.and_eq_true,decide_eq_true_iff] at this;exact ⟨⟨this.1.1.1,this.1.1.2⟩,this.1.2,this.2⟩
theorem b3G{ws vs:List Str}{gv:List Nat}{r:Rw}(hw:NG ws)(hv:NG vs)(hg:L6 ws vs gv 9 r):l7 ws vs r ≠ []/\∀ w ∈ l7 ws vs r,gw w:=by
 have k:∀ w ∈ keptW,gw w:=a2M;have v:∀ x ∈ d8 r,gw (vn vs x):=fun x hx=>U5 (hv _ (F1 (hg.1 x hx)));unfold keptW at k;simp only [List.forall_mem_cons] at k;obtain ⟨k1,k2,k3,k4,k5,k6,k7,k8,_⟩:=k
 cases r with
 |num x n =>
  have hn:0 <= n/\n < 10 ^ 18:=hg.2.2
  have:=a8m (n:=n.toNat) (by right)
  exact ⟨List.cons_ne_nil _ _,by simp only [l7,List.forall_mem_cons];exact ⟨v x (by simp [d8]),k4,this,fun _ h=>nomatch h⟩⟩
 |copy x y=>exact ⟨List.cons_ne_nil _ _,by simp only [l7,List.forall_mem_cons];exact ⟨v x (by simp [d8]),k4,v y (by simp [d8]),fun _ h=>nomatch h⟩⟩
 |does x o y z=>exact ⟨List.cons_ne_nil _ _,by simp only [l7,List.forall_mem_cons];exact ⟨v x (by simp [d8]),k4,v y (by simp [d8]),b2U hg.2.2,v z (by simp [d8]),fun _ h=>nomatch h⟩⟩
 |call x g ys =>
  refine ⟨List.cons_ne_nil _ _,?_⟩;simp only [l7,List.forall_mem_cons];refine ⟨v x (by simp [d8]),k4,k5,U5 (hw _ (F1 hg.2.2.1)),fun w h=>?_⟩;obtain ⟨y,hy,rfl⟩:=List.mem_map.mp h;exact v y (List.mem_cons_of_mem _ hy)
 |dye x=>exact ⟨List.cons_ne_nil _ _,by simp only [l7,List.forall_mem_cons];exact ⟨k6,v x (by simp [d8]),fun _ h=>nomatch h⟩⟩
 |wash x=>exact ⟨List.cons_ne_nil _ _,by simp only [l7,List.forall_mem_cons];exact ⟨k7,v x (by simp [d8]),fun _ h=>nomatch h⟩⟩
 |ret x=>exact ⟨List.cons_ne_nil _ _,by simp only [l7,List.forall_mem_cons];exact ⟨k8,v x (by simp [d8]),fun _ h=>nomatch h⟩⟩
 |to q =>
  have hn:q < 9:=hg.2.2;exact ⟨List.cons_ne_nil _ _,by simp only [l7,List.forall_mem_cons];exact ⟨k2,a8m (by right),fun _ h=>nomatch h⟩⟩
 |ifq x q =>
  have hn:q < 9:=hg.2.2;exact ⟨List.cons_ne_nil _ _,by simp only [l7,List.forall_mem_cons];exact ⟨k3,v x (by simp [d8]),k2,a8m (by right),fun _ h=>nomatch h⟩⟩
def PrW(Fs:List Fu):Prop:=Fs.length <= 6/\∀ F ∈ Fs,isN F.name=true/\NG F.vars/\F.vars.length <= 10/\F.given <= F.vars.length/\F.rows.length <= 9/\∀ r ∈ F.rows,L6 (Fs.map (·.name)) F.vars (Fs.map (·.given)) 9 r
def prL(Fs:List Fu):List (List Str):=(Fs.map (fW (Fs.map (·.name)))).flatten
theorem a2D{Fs:List Fu}(h:PrW Fs):(prL Fs).length <= 60/\∀ l ∈ prL Fs,l ≠ []/\l.length <= 14/\∀ w ∈ l,gw w:=by
 obtain ⟨l6,ok⟩:=h
 have NW:NG (Fs.map (·.name)):=fun v hv=>by
  obtain ⟨G,hG,rfl⟩:=List.mem_map.mp hv;exact (ok G hG).1
 constructor
 ·unfold prL;rw [List.length_flatten]
  have:=a0N ((Fs.map (fW (Fs.map (·.name)))).map List.length) 10 fun x hx=>by
   obtain ⟨y,hy,rfl⟩:=List.mem_map.mp hx;obtain ⟨F,hF,rfl⟩:=List.mem_map.mp hy
   have:=(ok F hF).2.2.2.2.1
   unfold fW
   simp;omega
  simp only [List.length_map] at this;omega
 ·intro l hl;obtain ⟨y,hy,hl⟩:=List.mem_flatten.mp hl;obtain ⟨F,hF,rfl⟩:=List.mem_map.mp hy;obtain ⟨nm,vg,v10,gn,r9,rg⟩:=ok F hF;unfold fW at hl
  rcases List.mem_cons.mp hl with rfl | hl
  ·refine ⟨List.cons_ne_nil _ _,by simp;omega,fun w hw=>?_⟩
   rcases List.mem_cons.mp hw with rfl | hw
   ·exact a2M _ (by unfold keptW;exact List.mem_cons_self)
   rcases List.mem_cons.mp hw with rfl | hw
   ·exact U5 nm
   ·exact U5 (vg w (List.mem_of_mem_take hw))
  ·obtain ⟨r,hr,rfl⟩:=List.mem_map.mp hl;obtain ⟨a,b⟩:=b3G NW vg (rg r hr)
   have:=N9 (Fs.map (·.name)) F.vars r
   have:=(rg r hr).2.1
   exact ⟨a,by right,b⟩
theorem a1J{n:Nat}:∀ {l:List Str},(∀ x ∈ l,x.length <= n)->(l.map (·.length)).sum <= l.length * n:=fun {l} h=>by
 have:=a0N (l.map (·.length)) n fun x hx=>by
  obtain ⟨y,hy,rfl⟩:=List.mem_map.mp hx;exact h y hy
 rw [List.length_map] at this;exact this
theorem I0{c n:Nat}{l:List Str}(h:∀ x ∈ l,x.length <= n)(hl:l.length * (n + 1) <= 1000000):JoinOk ⟨#[c]⟩ l=true:=by
 have h1:=a1J h;have h2:(⟨#[c]⟩:Str).length=1:=rfl;rw [Nat.mul_add] at hl;unfold JoinOk;rw [StrLaws.joinTotal,h2];unfold Builtin.Str.tooLong sizeLine;rw [decide_eq_false (by right)];rfl
theorem G6(x:Str)(l:List Str):Txt.join x l=Str.join x l:=by
 exact StrLaws.glued_eq_join x l
theorem K3{c n:Nat}{l:List Str}(h:∀ x ∈ l,x.length <= n):(Str.join ⟨#[c]⟩ l).length <= l.length * (n + 1):=by
 have h1:=a1J h;have h2:(⟨#[c]⟩:Str).length=1:=rfl
 have:=StrLaws.join_length_le ⟨#[c]⟩ l
 rw [h2] at this;rw [Nat.mul_add];omega
def a0i:DSp:=fun ds h Q=>∃ Fs:List Fu,ds=[.lst (Fs.map fuD)]/\PrW Fs/\Q (.str (Str.join nl ((prL Fs).map (Str.join sp)))) h
theorem V5(xs:List D)(k:Nat)(hk:k <= xs.length):E8 xs none (some (k:Int))=xs.take k:=by
 unfold E8;rw [show HT.sIx xs.length 0 none=0 from rfl,show HT.sIx xs.length xs.length (some (k:Int))=k by rw [HT.sIx_nat];omega];rfl
theorem a9J:∀ ds h Q,a0i ds h Q->m4 6 a6Q ds h (Dr h Q):=by
 rintro ds h Q ⟨Fs,rfl,pw,q⟩
 obtain ⟨p60,pk⟩:=a2D pw;obtain ⟨l6,ok⟩:=pw;delta m4 a6Q;simp only [VS];left;simp only [VV];subst hN;left;simp only [VV];refine n6 (fun p δ h'=>∃ (x2 x3 x4 x5:Option D),δ=[some (.lst (Fs.map fuD)),some (.ref h.length),x2,x3,x4,x5]/\h'=h ++ [.lst (((p.map (fW (Fs.map (·.name)))).flatten).map fun w=>.lst (w.map .str))]) ⟨none,none,none,none,rfl,rfl⟩ (fun _ _ _ _=>Src.ok_nil) ?_ ?_
 ·rintro p F r δ h' N1 e ⟨x2,x3,x4,x5,rfl,rfl⟩ hN1
  obtain ⟨nm,vg,v10,gn,r9,rg⟩:=ok F (by rw [e];simp);have ct:=V5 (F.vars.map D.str) F.given (by rw [List.length_map];exact gn)
  have l60:((p.map (fW (Fs.map (·.name)))).flatten).length <= 60:=by
   unfold prL at p60;rw [e,List.map_append,List.flatten_append,List.length_append] at p60;rw [e];omega
  simp only [fuD,VV];refine ⟨trivial,?_⟩;left;simp only [o5,p8,ct,List.length_map,VV];refine ⟨by rw [List.length_take,List.length_map];omega,by right,?_⟩;subst hN;simp only [o5,VV];refine ⟨by rw [List.length_map];omega,?_⟩;refine z6 (fun r:Rw=>D.lst ((l7 (Fs.map (·.name)) F.vars r).map .str)) Src.ok_nil none (fun r hr K kk=>?_) ?_
  ·simp only [VV];exact ⟨Fs,F.vars,_,9,r,rfl,by right,rg r hr,kk⟩
  simp only [o5,p8,lsP,List.length_map,List.length_append,VV];refine ⟨by right,hN1 _ _ ⟨_,_,_,_,rfl,?_⟩⟩;rw [List.map_append,List.flatten_append,List.map_append];unfold fW
  simp [List.map_take]
 ·rintro δ h' ⟨x2,x3,x4,x5,rfl,rfl⟩
  subst hN;have sr:=D6 (o5 h (O.lst (((Fs.map (fW (Fs.map (·.name)))).flatten).map fun w=>.lst (w.map .str))));simp only [sr,List.length_map,a2b,b0i,VV];refine ⟨by unfold prL at p60;omega,?_⟩;have wk:∀ l ∈ prL Fs,∀ w ∈ l,w.length <= 18:=fun l hl w hw=>((pk l hl).2.2 w hw).1.2;refine z6 (fun l:List Str=>D.str (Str.join sp l)) (fun p hp=>by rw [List.mem_singleton.mp hp];exact o5 _ _) none (fun l hl K kk=>?_) ?_
  ·simp only [VV];refine ⟨l,rfl,I0 (wk l hl) (by have:=(pk l hl).2.1;omega),?_⟩;rw [G6];exact kk
  refine ⟨(prL Fs).map (Str.join sp),by rw [List.map_map];rfl,I0 (n:=300) (fun x hx=>?_) (by rw [List.length_map];omega),?_⟩
  ·obtain ⟨l,hl,rfl⟩:=List.mem_map.mp hx
   have:=K3 (c:=32) (wk l hl)
   have:=(pk l hl).2.1
   unfold sp;omega
  rw [G6];exact Dr.drop rfl q
theorem b4A{f:Addr}{fd:FuncData}(F:Fun K "written" "written" a7V f fd)(T:Txt P w K mg)(C_q34:Cal P w K mg base 2 "words_of" ["program","variables","row"] (spD K 3 a3n)):t8 P w K mg base CX0 3 f fd ["program"] (spD K 1 a0i) :=
 B8 (k:=2) (b:=a6Q) F sc_q35 (fun cdv A outer s H E hr=>by
  refine c7 ?_ ?_
  ·exact i9 (i:=1) sc_q35.nd rfl (Or.inl rfl) (J4 (j5 c6))
  refine c7 ?_ ?_
  ·refine z4 PassesOwn.never rfl (o9 (sv 0)) ?_ ?_
   ·exact F0 rfl (l4 (h6 (i:=2) sc_q35.nd rfl (Or.inl rfl)) (l4 (h6 (i:=3) sc_q35.nd rfl (Or.inl rfl)) (l4 (h6 (i:=4) sc_q35.nd rfl (Or.inr rfl)) (l4 (h6 (i:=5) sc_q35.nd rfl (Or.inl rfl)) B3))))
   refine c7 ?_ ?_
   ·refine s9 ?_;exact n9 (sv 1) (a9 (d7 j0 (p4 (j5 (a9 d6 (a9 (sv 2) c6)))) (p4 (U4 rfl T.b_list (a9 (G2 (sv 4) y0 (w9 (sv 3))) c6)))) c6)
   refine c8 ?_;refine s9 ?_;refine P9 (n:=1) (sv 1) ?_;refine a9 ?_ c6;refine p4 ?_;exact p9 rfl (N':= ["row","program","variables"]) (js:=[none,some 0,some 4]) ⟨rfl,by decide +kernel,rfl,rfl,rfl⟩ (o9 (sv 5)) (fun s0 H0 fp=>⟨(h6 (i:=0) (show (["row","program","variables"]:List Str).Nodup by decide +kernel) rfl (Or.inl rfl)),u2,(h7 C_q34 (hr.mono (by decide)) rfl (a9 (sv 1) (a9 (sv 2) (a9 (sv 0) c6))))⟩)
  refine c8 ?_;refine i6 ?_;exact J2 d6 (a9 (p4 (p9 rfl (N':= ["words"]) (js:=[none]) ⟨rfl,by decide +kernel,rfl,rfl,rfl⟩ (o9 (sv 1)) (fun s0 H0 fp=>⟨(h6 (i:=0) (show (["words"]:List Str).Nodup by decide +kernel) rfl (Or.inl rfl)),u2,(J2 d6 (a9 (sv 0) c6))⟩))) c6)) a9J
def a8r:DS:=(d9 (m5 (j9 (dOp (pEq false) (dOp pIx (b9 0) (dC (.int 0))) (dC (.str "to")))) (j8 (dV (b0 (dC (.str "to")) (b0 (dCB M9 (b0 (dOp m3 (dOp pIx (b9 0) (dC (.int 1))) (dC (.int 1))) d2)) d2)))) j2)
  (d9 (j7 (dOp pIx (b9 1) (dOp pIx (b9 0) (dC (.int 1)))) (d5 3))
  (d9 (m5 (j9 (dOp (pEq false) (dOp pIx (b9 0) (dC (.int 0))) (dC (.str "if")))) (j8 (dV (b0 (dC (.str "if")) (b0 (b9 3) (b0 (dC (.str "to")) (b0 (dCB M9 (b0 (dOp m3 (dOp pIx (b9 0) (dC (.int 2))) (dC (.int 1))) d2)) d2)))))) j2)
  (d9 (m5 (j9 (dOp (pEq false) (dOp pIx (b9 0) (dC (.int 0))) (dC (.str "number")))) (j8 (dV (b0 (b9 3) (b0 (dC (.str "=")) (b0 (dCB M9 (b0 (dOp pIx (b9 0) (dC (.int 2))) d2)) d2))))) j2)
  (d9 (m5 (j9 (dOp (pEq false) (dOp pIx (b9 0) (dC (.int 0))) (dC (.str "copy")))) (j8 (dV (b0 (b9 3) (b0 (dC (.str "=")) (b0 (dOp pIx (b9 1) (dOp pIx (b9 0) (dC (.int 2)))) d2))))) j2)
  (d9 (m5 (j9 (dOp (pEq false) (dOp pIx (b9 0) (dC (.int 0))) (dC (.str "does")))) (j8 (dV (b0 (b9 3) (b0 (dC (.str "=")) (b0 (dOp pIx (b9 1) (dOp pIx (b9 0) (dC (.int 3)))) (b0 (dOp pIx (b9 0) (dC (.int 2))) (b0 (dOp pIx (b9 1) (dOp pIx (b9 0) (dC (.int 4)))) d2))))))) j2)
  (d9 (m5 (j9 (dOp (pEq false) (dOp pIx (b9 0) (dC (.int 0))) (dC (.str "call")))) (j8 (dOp m3 (dV (b0 (b9 3) (b0 (dC (.str "=")) (b0 (dC (.str "call")) (b0 (dOp pIx (b9 2) (dOp pIx (b9 0) (dC (.int 2)))) d2))))) (dV (u5 [none,some 1] (t9 (dOp pIx (b9 0) (dC (.int 3)))) (d5 0) y8 (dOp pIx (b9 1) (b9 0)))))) j2)
  (j8 (dV (b0 (dOp pIx (b9 0) (dC (.int 0))) (b0 (b9 3) d2)))))))))))
def a3K:DSp:=fun ds h Q=>∃ (ws vs:List Str) (gv:List Nat) (r:Rw),ds=[roD r,.tup (vs.map .str),.lst (ws.map .str)]/\L6 ws vs gv 9 r/\Q (.lst ((l7 ws vs r).map .str)) h
theorem b1c:∀ ds h Q,a3K ds h Q->m4 4 a8r ds h Q:=by
 rintro ds h Q ⟨ws,vs,gv,r,rfl,hg,q⟩
 delta m4 a8r;simp only [VS];left
 cases r with
 |to a =>
  have ha:a < 9:=hg.2.2;simp only [roD,M9,VV];refine ⟨C6 (by right) (by right),?_⟩;rw [R7 (by right)];exact q
 |ifq x a =>
  have ha:a < 9:=hg.2.2;have e1:=v7 (hg.1 x (by simp [d8]));simp only [roD,VV];subst hN;left;simp only [e1,VV];subst hN;left;simp only [M9,VV];refine ⟨C6 (by right) (by right),?_⟩;rw [R7 (by right)];exact q
 |num x k =>
  have hk:0 <= k/\k < 10 ^ 18:=hg.2.2;have e1:=v7 (hg.1 x (by simp [d8]));simp only [roD,VV];subst hN;left;simp only [e1,VV];subst hN;left;simp only [VV];subst hN;left;simp only [Z5,M9,VV];refine ⟨C6 hk.1 (by right),?_⟩;rw [R7 hk.1];exact q
 |copy x y =>
  have e2:=v7 (hg.1 y (by simp [d8]));have e1:=v7 (hg.1 x (by simp [d8]));simp only [roD,VV];subst hN;left;simp only [e1,VV];subst hN;left;simp only [U0,VV];subst hN;left;simp only [U0,VV];subst hN;left;simp only [e2,VV];exact q
 |does x o y z =>
  have e2:=v7 (hg.1 y (by simp [d8]));have e3:=v7 (hg.1 z (by simp [d8]));have e1:=v7 (hg.1 x (by simp [d8]));simp only [roD,VV];subst hN;left;simp only [e1,VV];subst hN;left;simp only [N0,VV];subst hN;left;simp only [N0,VV];subst hN;left;simp only [N0,VV];subst hN;left;simp only [e2,e3,VV];exact q
 |call x g ys =>
  have e2:=v7 hg.2.2.1;have l10:ys.length < 10:=hg.2.1;have e1:=v7 (hg.1 x (by simp [d8]));simp only [roD,VV];subst hN;left;simp only [e1,VV];subst hN;left;simp only [K9,VV];subst hN;left;simp only [K9,VV];subst hN;left;simp only [K9,VV];subst hN;left;simp only [K9,VV];subst hN;left;simp only [e2,VV];refine ⟨by rw [List.length_map];omega,?_⟩;refine z6 (fun x:Nat=>D.str (vn vs x)) Src.ok_nil none (fun y hy K kk=>?_) ?_
  ·have e3:=v7 (hg.1 y (List.mem_cons_of_mem _ hy));simp only [e3,VV];exact kk
  refine ⟨by rw [List.length_map];omega,?_⟩;have q:Q (.lst (D.str (vn vs x) :: D.str (Str.ofString "=") :: D.str (Str.ofString "call") :: D.str (vn ws g) :: (ys.map (vn vs)).map D.str)) h:=q;rw [List.map_map] at q;exact q
 |dye x =>
  have e1:=v7 (hg.1 x (by simp [d8]));simp only [roD,VV];subst hN;left;simp only [e1,VV];subst hN;left;simp only [Q5,VV];subst hN;left;simp only [Q5,VV];subst hN;left;simp only [Q5,VV];subst hN;left;simp only [Q5,VV];subst hN;left;simp only [Q5,VV];subst hN;simp only [VV];exact q
 |wash x =>
  have e1:=v7 (hg.1 x (by simp [d8]));simp only [roD,VV];subst hN;left;simp only [e1,VV];subst hN;left;simp only [K8,VV];subst hN;left;simp only [K8,VV];subst hN;left;simp only [K8,VV];subst hN;left;simp only [K8,VV];subst hN;left;simp only [K8,VV];subst hN;simp only [VV];exact q
 |ret x =>
  have e1:=v7 (hg.1 x (by simp [d8]));simp only [roD,VV];subst hN;left;simp only [e1,VV];subst hN;left;simp only [Q3,VV];subst hN;left;simp only [Q3,VV];subst hN;left;simp only [Q3,VV];subst hN;left;simp only [Q3,VV];subst hN;left;simp only [Q3,VV];subst hN;simp only [VV];exact q
theorem b4z{f:Addr}{fd:FuncData}(F:Fun K "_law_row_words" "_law_row_words" a6s f fd)(T:Txt P w K mg):t8 P w K mg base CX0 1 f fd ["_law_row","_law_variables","_law_words"] (spD K 3 a3K) :=
 x0 (k:=0) (b:=a8r) F sc_q11 (fun cdv A outer s H E hr=>by
  refine c7 ?_ ?_
  ·refine m7 (g9 (j6 hr.units) (d4 d3 (sv 0) b7) d6) ?_ i5;refine c8 ?_;refine i6 ?_;refine p4 ?_;refine j5 (n:=2) ?_;refine a9 d6 ?_;refine a9 ?_ c6;exact o8 R8 rfl T.b_str PyProof.Rows.boot_str (a9 (d7 j0 (d4 d3 (sv 0) b7) b7) c6)
  refine c7 ?_ ?_
  ·exact i9 (i:=3) sc_q11.nd rfl (Or.inl rfl) (d4 d3 (sv 1) (d4 d3 (sv 0) b7))
  refine c7 ?_ ?_
  ·refine m7 (g9 (j6 hr.units) (d4 d3 (sv 0) b7) d6) ?_ i5;refine c8 ?_;refine i6 ?_;refine p4 ?_;refine j5 (n:=4) ?_;refine a9 d6 ?_;refine a9 (sv 3) ?_;refine a9 d6 ?_;refine a9 ?_ c6;exact o8 R8 rfl T.b_str PyProof.Rows.boot_str (a9 (d7 j0 (d4 d3 (sv 0) b7) b7) c6)
  refine c7 ?_ ?_
  ·refine m7 (g9 (j6 hr.units) (d4 d3 (sv 0) b7) d6) ?_ i5;refine c8 ?_;refine i6 ?_;refine p4 ?_;refine j5 (n:=3) ?_;refine a9 (sv 3) ?_;refine a9 d6 ?_;refine a9 ?_ c6;exact o8 R8 rfl T.b_str PyProof.Rows.boot_str (a9 (d4 d3 (sv 0) b7) c6)
  refine c7 ?_ ?_
  ·refine m7 (g9 (j6 hr.units) (d4 d3 (sv 0) b7) d6) ?_ i5;refine c8 ?_;refine i6 ?_;refine p4 ?_;refine j5 (n:=3) ?_;refine a9 (sv 3) ?_;refine a9 d6 ?_;exact a9 (d4 d3 (sv 1) (d4 d3 (sv 0) b7)) c6
  refine c7 ?_ ?_
  ·refine m7 (g9 (j6 hr.units) (d4 d3 (sv 0) b7) d6) ?_ i5;refine c8 ?_;refine i6 ?_;refine p4 ?_;refine j5 (n:=5) ?_;refine a9 (sv 3) ?_;refine a9 d6 ?_;refine a9 (d4 d3 (sv 1) (d4 d3 (sv 0) b7)) ?_;refine a9 (d4 d3 (sv 0) b7) ?_;exact a9 (d4 d3 (sv 1) (d4 d3 (sv 0) b7)) c6
  refine c7 ?_ ?_
  ·refine m7 (g9 (j6 hr.units) (d4 d3 (sv 0) b7) d6) ?_ i5;refine c8 ?_;refine i6 ?_;exact d7 j0 (p4 (j5 (a9 (sv 3) (a9 d6 (a9 d6 (a9 (d4 d3 (sv 2) (d4 d3 (sv 0) b7)) c6)))))) (p4 (p9 rfl (N':= ["_law_k","_law_variables"]) (js:=[none,some 1]) ⟨rfl,by decide +kernel,rfl,rfl,rfl⟩ (o9 (d4 d3 (sv 0) b7)) (fun s0 H0 fp=>⟨(h6 (i:=0) (show (["_law_k","_law_variables"]:List Str).Nodup by decide +kernel) rfl (Or.inl rfl)),u2,(d4 d3 (sv 1) (sv 0))⟩)))
  refine c8 ?_;refine i6 ?_;refine p4 ?_;exact j5 (a9 (d4 d3 (sv 0) b7) (a9 (sv 3) c6))) b1c
def a5F:DS:=(d9 (j7 (dV (u5 [none] (t9 (b9 0)) (d5 0) y8 (dOp pIx (b9 0) (dC (.int 0))))) (d5 1))
  (d9 (j7 (dTk d2) (d5 2))
  (d9 (C9 (t9 (b9 0)) (V0 4 (p6 (d5 3) (p6 (d5 4) (p6 (d5 5) (p6 (d5 6) K5))))) (d9 (v8 (q8 (b9 2) (b0 (dOp m3 (dV (b0 (dC (.str "function")) (b0 (b9 3) d2))) (dV (O5 (b0 (dSl (b9 5) u9 (D2 (b9 4))) d2)))) d2)))
  (v8 (U1 (b9 2) (b0 (dV (u5 [none,some 5,some 1] (t9 (b9 6)) (d5 0) y8 (n8 a3K (b0 (b9 0) (b0 (b9 1) (b0 (b9 2) d2)))))) d2)))))
  (j8 (b9 2)))))
def a3j:DSp:=fun ds h Q=>∃ Fs:List Fu,ds=[.lst (Fs.map fuD)]/\PrW Fs/\Q (.lst ((prL Fs).map fun w=>.lst (w.map .str))) h
theorem b0B:∀ ds h Q,a3j ds h Q->m4 7 a5F ds h (Dr h Q):=by
 rintro ds h Q ⟨Fs,rfl,pw,q⟩
 obtain ⟨p60,pk⟩:=a2D pw;obtain ⟨l6,ok⟩:=pw;delta m4 a5F;simp only [VS];left;simp only [VV];refine ⟨by rw [List.length_map];omega,?_⟩;refine z6 (fun F:Fu=>D.str F.name) Src.ok_nil none (fun F hF K kk=>?_) ?_
 ·simp only [fuD,VV];exact kk
 subst hN;left;simp only [VV];subst hN;left;simp only [VV];refine n6 (fun p δ h'=>∃ (x3 x4 x5 x6:Option D),δ=[some (.lst (Fs.map fuD)),some (.lst (Fs.map fun F=>.str F.name)),some (.ref h.length),x3,x4,x5,x6]/\h'=h ++ [.lst (((p.map (fW (Fs.map (·.name)))).flatten).map fun w=>.lst (w.map .str))]) ⟨none,none,none,none,rfl,rfl⟩ (fun _ _ _ _=>Src.ok_nil) ?_ ?_
 ·rintro p F r δ h' N1 e ⟨x3,x4,x5,x6,rfl,rfl⟩ hN1
  obtain ⟨nm,vg,v10,gn,r9,rg⟩:=ok F (by rw [e];simp);have ct:=V5 (F.vars.map D.str) F.given (by rw [List.length_map];exact gn)
  have l60:((p.map (fW (Fs.map (·.name)))).flatten).length <= 60:=by
   unfold prL at p60;rw [e,List.map_append,List.flatten_append,List.length_append] at p60;rw [e];omega
  simp only [fuD,VV];refine ⟨trivial,?_⟩;left;simp only [o5,p8,ct,List.length_map,VV];refine ⟨by rw [List.length_take,List.length_map];omega,by right,?_⟩;subst hN;simp only [o5,VV];refine ⟨by rw [List.length_map];omega,?_⟩;refine z6 (fun r:Rw=>D.lst ((l7 (Fs.map (·.name)) F.vars r).map .str)) Src.ok_nil none (fun r hr K kk=>?_) ?_
  ·simp only [VV];exact ⟨Fs.map (·.name),F.vars,_,r,by rw [List.map_map];rfl,rg r hr,kk⟩
  simp only [o5,p8,lsP,List.length_map,List.length_append,VV];refine ⟨by right,hN1 _ _ ⟨_,_,_,_,rfl,?_⟩⟩;rw [List.map_append,List.flatten_append,List.map_append];unfold fW
  simp [List.map_take]
 ·rintro δ h' ⟨x3,x4,x5,x6,rfl,rfl⟩
  subst hN;simp only [VV];have nr:B0 ((prL Fs).map fun w=>D.lst (w.map .str))=true:=p7 (g:=fun w:List Str=>D.lst (w.map .str)) (fun w=>(p7 (fun _=>rfl) w:B0 (w.map D.str)=true)) _;exact Dr.dropL (h:=h) (Q:=Q) (xs:=(prL Fs).map fun w=>.lst (w.map .str)) (g1:=[]) (g2:=[]) (k:=h.length) nr (by simp) q
theorem b5h{f:Addr}{fd:FuncData}(F:Fun K "_law_words_of" "_law_words_of" a6S f fd)(T:Txt P w K mg)(C_q11:Cal P w K mg base 1 "_law_row_words" ["_law_row","_law_variables","_law_words"] (spD K 3 a3K)):t8 P w K mg base CX0 2 f fd ["_law_program_here"] (spD K 1 a3j) :=
 B8 (k:=1) (b:=a5F) F sc_q14 (fun cdv A outer s H E hr=>by
  refine c7 ?_ ?_
  ·refine i9 (i:=1) sc_q14.nd rfl (Or.inr rfl) ?_;refine p4 ?_;exact p9 rfl (N':= ["_law_function"]) (js:=[none]) ⟨rfl,by decide +kernel,rfl,rfl,rfl⟩ (o9 (sv 0)) (fun s0 H0 fp=>⟨(h6 (i:=0) (show (["_law_function"]:List Str).Nodup by decide +kernel) rfl (Or.inl rfl)),u2,(d4 d3 (sv 0) b7)⟩)
  refine c7 ?_ ?_
  ·exact i9 (i:=2) sc_q14.nd rfl (Or.inl rfl) (J4 (j5 c6))
  refine c7 ?_ (c8 (i6 (sv 2)));refine z4 PassesOwn.never rfl (o9 (sv 0)) ?_ ?_
  ·exact F0 rfl (l4 (h6 (i:=3) sc_q14.nd rfl (Or.inl rfl)) (l4 (h6 (i:=4) sc_q14.nd rfl (Or.inl rfl)) (l4 (h6 (i:=5) sc_q14.nd rfl (Or.inr rfl)) (l4 (h6 (i:=6) sc_q14.nd rfl (Or.inl rfl)) B3))))
  refine c7 ?_ ?_
  ·refine s9 ?_;exact n9 (sv 2) (a9 (d7 j0 (p4 (j5 (a9 d6 (a9 (sv 3) c6)))) (p4 (U4 rfl T.b_list (a9 (G2 (sv 5) y0 (w9 (sv 4))) c6)))) c6)
  refine c8 ?_;refine s9 ?_;refine P9 (n:=1) (sv 2) ?_;refine a9 ?_ c6;refine p4 ?_;exact p9 rfl (N':= ["_law_row","_law_variables","_law_words"]) (js:=[none,some 5,some 1]) ⟨rfl,by decide +kernel,rfl,rfl,rfl⟩ (o9 (sv 6)) (fun s0 H0 fp=>⟨(h6 (i:=0) (show (["_law_row","_law_variables","_law_words"]:List Str).Nodup by decide +kernel) rfl (Or.inl rfl)),u2,(h7 C_q11 (hr.mono (by decide)) rfl (a9 (sv 0) (a9 (sv 1) (a9 (sv 2) c6))))⟩)) b0B
def b3H:DS:=(d9 (m5 (dOr (Y6 (dTr (P0 "list" (b9 0)))) (j9 (dOp (pEq true) (b9 0) (b9 1)))) (j8 (dC (.bl false))) j2)
  (d9 (C9 (t9 (b9 0)) (V0 4 (p6 (d5 2) (p6 (d5 3) (p6 (d5 4) (p6 (d5 5) K5))))) (d9 (m5 (dOr (Y6 (dTr (P0 "int" (b9 3)))) (dTr (P0 "bool" (b9 3)))) (j8 (dC (.bl false))) j2)
  (C9 (t9 (b9 5)) (d5 6) (C9 (t9 (b9 6)) (d5 7) (m5 (dTr (P0 "bool" (b9 7))) (j8 (dC (.bl false))) j2)))))
  (j8 (dC (.bl true)))))
def roP:Rw->PyData
 |.num x k=>.tuple [.str "number",.int x,.int k]
 |.copy x y=>.tuple [.str "copy",.int x,.int y]
 |.does x o y z=>.tuple [.str "does",.int x,.str o,.int y,.int z]
 |.dye x=>.tuple [.str "dye",.int x]
 |.wash x=>.tuple [.str "wash",.int x]
 |.ifq x q=>.tuple [.str "if",.int x,.int q]
 |.to q=>.tuple [.str "to",.int q]
 |.ret x=>.tuple [.str "return",.int x]
 |.call x g ys=>.tuple [.str "call",.int x,.int g,.tuple (ys.map fun y:Nat=>.int (y:Int))]
def fuP(F:Fu):PyData:=.tuple [.str F.name,.int F.given,.tuple (F.vars.map .str),.tuple (F.rows.map roP)]
theorem Pds.mapM{τ:Type}{h:Hh}{n:Nat}{f:τ->D}{g:τ->PyData}:∀ {xs:List τ},(∀ x ∈ xs,Pd h (f x) (g x) n)->Pds h (xs.map f) (xs.map g) n
 |[],_=>.nil
 |x :: xs,k=>.cons (k x List.mem_cons_self) (Pds.mapM fun y hy=>k y (List.mem_cons_of_mem _ hy))
theorem b7w{o:Str}(h:o ∈ W0):PyData.strOk o=true:=(b2U h).1.1
theorem b7R{ws vs:List Str}{gv:List Nat}{m:Nat}{r:Rw}(h:Hh)(hg:L6 ws vs gv m r):Pd h (roD r) (roP r) 2:=by
 have k:∀ w ∈ (["number","copy","does","dye","wash","if","to","return","call"]:List Str),PyData.strOk w=true:=by decide +kernel
 simp only [List.forall_mem_cons] at k;obtain ⟨k1,k2,k3,k4,k5,k6,k7,k8,k9,_⟩:=k
 cases r with
 |num x n=>exact .tup (.cons (.str k1) (.cons (.int _) (.cons (.int _) .nil)))
 |copy x y=>exact .tup (.cons (.str k2) (.cons (.int _) (.cons (.int _) .nil)))
 |does x o y z=>exact .tup (.cons (.str k3) (.cons (.int _) (.cons (.str (b7w hg.2.2)) (.cons (.int _) (.cons (.int _) .nil)))))
 |dye x=>exact .tup (.cons (.str k4) (.cons (.int _) .nil))
 |wash x=>exact .tup (.cons (.str k5) (.cons (.int _) .nil))
 |ifq x q=>exact .tup (.cons (.str k6) (.cons (.int _) (.cons (.int _) .nil)))
 |to q=>exact .tup (.cons (.str k7) (.cons (.int _) .nil))
 |ret x=>exact .tup (.cons (.str k8) (.cons (.int _) .nil))
 |call x g ys=>exact .tup (.cons (.str k9) (.cons (.int _) (.cons (.int _) (.cons (.tup (n:=0) (Pds.map fun x=>.int _)) .nil))))
theorem b8r{ws:List Str}{gv:List Nat}{m:Nat}{F:Fu}(h:Hh)(nm:isN F.name=true)(vg:NG F.vars)(rg:∀ r ∈ F.rows,L6 ws F.vars gv m r):Pd h (fuD F) (fuP F) 4 :=
 .tup (.cons (.str (u0 nm).1.1) (.cons (.int _) (.cons (.tup (n:=2) (Pds.mapM fun v hv=>.str (u0 (vg v hv)).1.1)) (.cons (.tup (n:=2) (Pds.mapM fun r hr=>b7R h (rg r hr))) .nil))))
def thD:Rw->List D
 |.num x k=>[.str "number",nD x,.int k]
 |.copy x y=>[.str "copy",nD x,nD y]
 |.does x o y z=>[.str "does",nD x,.str o,nD y,nD z]
 |.dye x=>[.str "dye",nD x]
 |.wash x=>[.str "wash",nD x]
 |.ifq x q=>[.str "if",nD x,nD q]
 |.to q=>[.str "to",nD q]
 |.ret x=>[.str "return",nD x]
 |.call x g ys=>[.str "call",nD x,nD g,.tup (ys.map nD)]
theorem b9b(r:Rw):roD r = .tup (thD r):=by cases r <;> rfl
theorem b1v(h:Hh)(r:Rw):∀ d ∈ thD r,∃ t,E5 h d=some t/\j3 t "bool" = false:=by
 cases r <;> simp only [thD,List.forall_mem_cons] <;> simp [E5,j3]
def a4A:DSp:=fun ds h Q=>∃ (i:Nat) (Fs:List Fu),ds=[.ref i,.lst (Fs.map fuD)]/\h[i]?=some (.lst (Fs.map fuD))/\PrW Fs/\Q (.bl true) h
theorem b5f:∀ ds h Q,a4A ds h Q->m4 8 b3H ds h Q:=by
 rintro ds h Q ⟨i,Fs,rfl,hi,⟨l6,ok⟩,q⟩
 have kd:E5 h (.ref i)=some "list":=by show (match h[i]? with | some (.lst _)=>some "list" | some (.dT none _)=>some "dict" | some (.dK _)=>some "dict" | _=>none)=_;rw [hi]
 have pd:∀ F ∈ Fs,Pd h (fuD F) (fuP F) 4:=fun F hF=>by
  obtain ⟨nm,vg,_,_,_,rg⟩:=ok F hF;exact b8r h nm vg rg
 delta m4 b3H;simp only [VS];left;simp only [kd,VV];have a1:=Pd.ref hi (Pds.mapM pd);have a2:=Pd.lst (Pds.mapM pd);refine ⟨_,_,a1.1,a2.1,a1.shaped (by decide),a2.shaped (by decide),?_⟩;rw [SeqAt.eqv_refl _ a1.2.1];simp only [VV];subst hN;left;simp only [D6 hi,VV];refine n6 (fun p δ h'=>∃ (x2 x3 x4 x5 x6 x7:Option D),δ=[some (.ref i),some (.lst (Fs.map fuD)),x2,x3,x4,x5,x6,x7]/\h'=h) ⟨none,none,none,none,none,none,rfl,rfl⟩ ?_ ?_ ?_
 ·rintro p δ h' ⟨_,_,_,_,_,_,_,rfl⟩ y hy
  rw [List.mem_singleton.mp hy];exact hi
 ·rintro p F r δ h' N1 e ⟨x2,x3,x4,x5,x6,x7,rfl,rfl⟩ hN1
  simp only [fuD,VV];refine ⟨trivial,?_⟩;left;simp only [E5,j3,VV];subst hN;simp only [VV];refine n6 (fun p δ h2=>∃ (x6 x7:Option D),δ=[some (.ref i),some (.lst (Fs.map fuD)),some (D.str F.name),some (nD F.given),some (D.tup (List.map D.str F.vars)),some (D.tup (List.map roD F.rows)),x6,x7]/\h2=h') ⟨_,_,rfl,rfl⟩ (fun _ _ _ _=>Src.ok_nil) ?_ ?_
  ·rintro p2 R r2 δ h2 N2 e2 ⟨x6,x7,rfl,rfl⟩ hN2
   rw [b9b];have kn:=b1v h2 R;rw [<- List.map_id (thD R)] at kn ⊢;simp only [VV];refine n6 (fun p δ h3=>∃ x7:Option D,δ=[some (.ref i),some (.lst (Fs.map fuD)),some (D.str F.name),some (nD F.given),some (D.tup (List.map D.str F.vars)),some (D.tup (List.map roD F.rows)),some (D.tup (List.map id (thD R))),x7]/\h3=h2) ⟨_,rfl,rfl⟩ (fun _ _ _ _=>Src.ok_nil) ?_ ?_
   ·rintro p3 d r3 δ h3 N3 e3 ⟨x7,rfl,rfl⟩ hN3
    obtain ⟨k,k1,k2⟩:=kn d (by rw [List.map_id,e3];simp);simp only [id,k1,k2,VV];exact hN3 _ _ ⟨_,rfl,rfl⟩
   ·rintro δ h3 ⟨x7,rfl,rfl⟩
    exact hN2 _ _ ⟨_,_,rfl,rfl⟩
  ·rintro δ h2 ⟨x6,x7,rfl,rfl⟩
   exact hN1 _ _ ⟨_,_,_,_,_,_,rfl,rfl⟩
 ·rintro δ h' ⟨x2,x3,x4,x5,x6,x7,rfl,rfl⟩
  subst hN;simp only [VV];exact q
theorem b7r{f:Addr}{fd:FuncData}(F:Fun K "_law_is_program" "_law_is_program" b6j f fd)(T:Txt P w K mg):t8 P w K mg base CX0 1 f fd ["_law_found","_law_due"] (spD K 2 a4A) :=
 x0 (k:=0) (b:=b3H) F sc_q5 (fun cdv A outer s H E hr=>by
  refine c7 ?_ ?_
  ·refine m7 ?_ (c8 (i6 T3)) i5;exact F7 (S5 (J0 (o0 (L3 (by decide) rfl T.b_isinstance (sv 0) (T9 (v:=.ty "list") rfl T.b_list PyProof.Rows.boot_list rfl)))) (M6 (g9 (a1v hr.units) (sv 0) (sv 1))))
  refine c7 ?_ (c8 (i6 T3));refine z4 PassesOwn.never rfl (o9 (sv 0)) ?_ ?_
  ·exact F0 rfl (l4 (h6 (i:=2) sc_q5.nd rfl (Or.inl rfl)) (l4 (h6 (i:=3) sc_q5.nd rfl (Or.inl rfl)) (l4 (h6 (i:=4) sc_q5.nd rfl (Or.inl rfl)) (l4 (h6 (i:=5) sc_q5.nd rfl (Or.inl rfl)) B3))))
  refine c7 ?_ ?_
  ·refine m7 ?_ (c8 (i6 T3)) i5;exact F7 (S5 (J0 (o0 (L3 (by decide) rfl T.b_isinstance (sv 3) (T9 (v:=.ty "int") rfl T.b_int PyProof.Rows.boot_int rfl)))) (M6 (o0 (L3 (by decide) rfl T.b_isinstance (sv 3) (T9 (v:=.ty "bool") rfl T.b_bool PyProof.Rows.boot_bool rfl)))))
  refine c8 ?_;refine z4 PassesOwn.never rfl (o9 (sv 5)) (h6 (i:=6) sc_q5.nd rfl (Or.inl rfl)) ?_;refine c8 ?_;refine z4 PassesOwn.never rfl (o9 (sv 6)) (h6 (i:=7) sc_q5.nd rfl (Or.inl rfl)) ?_;refine c8 ?_;refine m7 ?_ (c8 (i6 T3)) i5;exact o0 (L3 (by decide) rfl T.b_isinstance (sv 7) (T9 (v:=.ty "bool") rfl T.b_bool PyProof.Rows.boot_bool rfl))) b5f
def b4W:DS:=(d9 (m5 (j9 (dOp pGe (b9 1) (dCB v9 (b0 (b9 0) d2)))) (j8 (dC (.int 0))) j2)
  (d9 (m5 (j9 (K2 a0L a0L (dUn a1G (dC (.int 1000))) (dOp pIx (b9 0) (b9 1)) (dC (.int 1000)))) (j8 (dOp u3 (dOp E3 (dOp b0D (dOp m3 (dOp m3 (dOp pIx (b9 0) (b9 1)) (dC (.int 1000))) (dOp E3 (dC (.int 2003)) (b9 1))) (dC (.int 2))) (dC (.int 48271))) (dC (.int 2147483647)))) j2)
  (j8 (dOp pIx (b9 0) (b9 1)))))
def Q6:DSp:=fun ds h Q=>∃ (ns:List Int) (k:Nat),ds=[.scr (ns.map .int),.int k]/\ns.length <= 63/\(∀ x ∈ ns,Builtin.Int.intBits x <= 1048576)/\k <= 1000/\∀ r:Int,Q (.int r) h
theorem b5B:∀ ds h Q,Q6 ds h Q->m4 2 b4W ds h Q:=by
 rintro ds h Q ⟨ns,k,rfl,hl,hb,hk,q⟩
 delta m4 b4W;simp only [VS];left;simp only [List.length_map,VV];refine Q0 (fun c1=>q _) (fun c1=>?_);have kl:k < ns.length:=by have:=of_decide_eq_false c1;omega
 have ix:atI (ns.map D.int) (k:Int)=some (.int ns[k]):=by rw [atN,List.getElem?_map,List.getElem?_eq_getElem kl];rfl
 subst hN;left;simp only [ix,VV];generalize ns[k]=x
 have rest:N [some (.scr (ns.map D.int)),some (.int k)] h:=by
  subst hN;simp only [ix,VV];exact q _
 refine Q0 (fun c2=>?_) (fun c2=>rest);have l1:=of_decide_eq_true c2;refine Q0 (fun c3=>?_) (fun c3=>rest);have l2:=of_decide_eq_true c3;refine ⟨Q1 (by decide),⟨by decide,by decide,by right⟩,b7k (by decide),by decide,?_⟩;exact q _
theorem b7K{f:Addr}{fd:FuncData}(F:Fun K "_law_cell_at" "_law_cell_at" b6B f fd)(T:Txt P w K mg):t8 P w K mg base CX0 1 f fd ["_law_script","_law_k"] (spD K 2 Q6) :=
 x0 (k:=0) (b:=b4W) F b7E (fun cdv A outer s H E hr=>by
  refine c7 ?_ ?_
  ·refine m7 ?_ (c8 (i6 b7)) i5;exact g9 b7m (sv 1) (i7 m6 rfl T.b_len PySem.boot_len (a9 (sv 0) c6))
  refine c7 ?_ (c8 (i6 (d4 d3 (sv 0) (sv 1))));refine m7 ?_ ?_ i5
  ·exact a1t J5 J5 (W8 M7 b7) (d4 d3 (sv 0) (sv 1)) b7
  refine c8 ?_;refine i6 ?_;exact d7 l5 (d7 t7 (d7 a2k (d7 j0 (d7 j0 (d4 d3 (sv 0) (sv 1)) b7) (d7 t7 b7 (sv 1))) b7) b7) b7) b5B
def a7i:DS:=(d9 (j7 (dTk d2) (d5 2))
  (d9 (j7 (dOp u3 (b9 0) (dC (.int 2147483647))) (d5 3))
  (d9 (C9 (C3 (b0 (b9 1) d2)) (d5 4) (d9 (j7 (dOp u3 (dOp m3 (dOp m3 (dOp E3 (b9 3) (dC (.int 48271))) (dC (.int 12820163))) (b9 4)) (dC (.int 2147483647))) (d5 3))
  (v8 (q8 (b9 2) (b0 (b9 3) d2)))))
  (j8 (b9 2)))))
def a3p:DSp:=fun ds h Q=>∃ (c:Int) (m:Nat),ds=[.int c,.int m]/\m <= 1000/\∀ rs:List Int,rs.length=m->Q (.lst (rs.map D.int)) h
theorem b0L:∀ ds h Q,a3p ds h Q->m4 5 a7i ds h (Dr h Q):=by
 rintro ds h Q ⟨c,m,rfl,hm,q⟩
 delta m4 a7i;simp only [VS];left;simp only [VV];subst hN;left;simp only [VV];refine ⟨by decide,?_⟩;have cb:0 <= c % 2147483647/\c % 2147483647 < 2147483647:=by right
 generalize c % 2147483647=s0 at cb;subst hN;left;simp only [VV];refine ⟨⟨by right,by right⟩,?_⟩;rw [u7,Int.toNat_natCast];refine n6 (fun p δ h'=>∃ (rs:List Int) (s:Int),h'=h ++ [.lst (rs.map D.int)]/\rs.length=p.length/\(0 <= s/\s < 2147483647)/\∃ x4,δ=[some (.int c),some (.int m),some (.ref h.length),some (.int s),x4]) ⟨[],s0,rfl,rfl,cb,_,rfl⟩ (fun _ _ _ _=>Src.ok_nil) ?_ ?_
 ·rintro p y r δ h' N1 e ⟨rs,s,rfl,rl,sb,x4,rfl⟩ hN1
  obtain ⟨rfl,hy⟩:=y6 e;clear hN;simp only [VV]
  (try dsimp only);refine L0 fun N2 hN2=>?_;simp only [VV];refine ⟨Q1 (by right),by decide,?_⟩;have s2:0 <= (s * 48271 + 12820163 + (0 + (p.length:Int))) % 2147483647/\(s * 48271 + 12820163 + (0 + (p.length:Int))) % 2147483647 < 2147483647:=by right
  generalize (s * 48271 + 12820163 + (0 + (p.length:Int))) % 2147483647=s' at s2;subst hN2;have gn:(h ++ [O.lst (rs.map D.int)])[h.length]?=some (.lst (rs.map D.int)):=o5 _ _;simp only [gn,VV];refine ⟨by rw [List.length_map];omega,?_⟩;rw [p8];exact hN1 _ _ ⟨rs ++ [s'],s',by rw [List.map_append];rfl,by simp [rl],s2,_,rfl⟩
 ·rintro δ h' ⟨rs,s,rfl,rl,sb,x4,rfl⟩
  rw [List.length_range] at rl;subst hN;simp only [VV];exact Dr.dropL (g1:=[]) (g2:=[]) (p7 (fun _=>rfl) rs) rfl (q rs rl)
theorem b3K{f:Addr}{fd:FuncData}(F:Fun K "_law_stream" "_law_stream" a7X f fd)(T:Txt P w K mg):t8 P w K mg base CX0 1 f fd ["_law_cell","_law_many"] (spD K 2 a3p) :=
 B8 (k:=0) (b:=a7i) F sc_q13 (fun cdv A outer s H E hr=>by
  refine c7 ?_ ?_
  ·exact i9 (i:=2) sc_q13.nd rfl (Or.inl rfl) (J4 (j5 c6))
  refine c7 ?_ ?_
  ·exact i9 (i:=3) sc_q13.nd rfl (Or.inl rfl) (d7 l5 (sv 0) b7)
  refine c7 ?_ (c8 (i6 (sv 2)));refine z4 PassesOwn.never rfl (C5 rfl T.b_range (a9 (sv 1) c6)) (h6 (i:=4) sc_q13.nd rfl (Or.inl rfl)) ?_;refine c7 ?_ (c8 (s9 (n9 (sv 2) (a9 (sv 3) c6))));refine i9 (i:=3) sc_q13.nd rfl (Or.inl rfl) ?_;exact d7 l5 (d7 j0 (d7 j0 (d7 t7 (sv 3) b7) b7) (sv 4)) b7) b0L
def b4R:DS:=(d9 (m5 (j9 (dOp (pEq false) (dOp pIx (b9 0) (dC (.int 0))) (dC (.str "to")))) (j8 (dV d2)) j2)
  (d9 (m5 (j9 (dOp (pEq false) (dOp pIx (b9 0) (dC (.int 0))) (dC (.str "copy")))) (j8 (dV (b0 (dOp pIx (b9 0) (dC (.int 1))) (b0 (dOp pIx (b9 0) (dC (.int 2))) d2)))) j2)
  (d9 (m5 (j9 (dOp (pEq false) (dOp pIx (b9 0) (dC (.int 0))) (dC (.str "does")))) (j8 (dV (b0 (dOp pIx (b9 0) (dC (.int 1))) (b0 (dOp pIx (b9 0) (dC (.int 3))) (b0 (dOp pIx (b9 0) (dC (.int 4))) d2))))) j2)
  (d9 (m5 (j9 (dOp (pEq false) (dOp pIx (b9 0) (dC (.int 0))) (dC (.str "call")))) (j8 (dOp m3 (dV (b0 (dOp pIx (b9 0) (dC (.int 1))) d2)) (dV (O5 (b0 (dOp pIx (b9 0) (dC (.int 3))) d2))))) j2)
  (j8 (dV (b0 (dOp pIx (b9 0) (dC (.int 1))) d2)))))))
def b0u:DSp:=fun ds h Q=>∃ r:Rw,ds=[roD r]/\(d8 r).length <= 100/\Q (.lst ((d8 r).map nD)) h
theorem b5R:∀ ds h Q,b0u ds h Q->m4 1 b4R ds h Q:=by
 rintro ds h Q ⟨r,rfl,hl,q⟩
 delta m4 b4R;simp only [VS]
 cases r with
 |to y=>left;simp only [roD,VV];exact q
 |copy x y=>left;simp only [roD,VV];subst hN;left;simp only [VV];exact q
 |does x o y z=>left;simp only [roD,VV];subst hN;left;simp only [VV];subst hN;left;simp only [VV];exact q
 |call x g ys=>left;simp only [roD,VV];subst hN;left;simp only [VV];subst hN;left;simp only [VV];subst hN;left;simp only [VV];exact ⟨by have hl:ys.length + 1 <= 100:=hl;rw [List.length_map];omega,q⟩
 |_=>left;simp only [roD,VV];subst hN;left;simp only [VV];subst hN;left;simp only [VV];subst hN;left;simp only [VV];subst hN;simp only [VV];exact q
theorem b8k{f:Addr}{fd:FuncData}(F:Fun K "_law_labels" "_law_labels" b6s f fd)(T:Txt P w K mg):t8 P w K mg base CX0 1 f fd ["_law_row"] (spD K 1 b0u) :=
 x0 (k:=0) (b:=b4R) F b8S (fun cdv A outer s H E hr=>by
  refine c7 ?_ ?_
  ·refine m7 (g9 (j6 hr.units) (d4 d3 (sv 0) b7) d6) ?_ i5;refine c8 ?_;refine i6 ?_;refine p4 ?_;exact j5 c6
  refine c7 ?_ ?_
  ·refine m7 (g9 (j6 hr.units) (d4 d3 (sv 0) b7) d6) ?_ i5;refine c8 ?_;refine i6 ?_;refine p4 ?_;refine j5 (n:=2) ?_;exact a9 (d4 d3 (sv 0) b7) (a9 (d4 d3 (sv 0) b7) c6)
  refine c7 ?_ ?_
  ·refine m7 (g9 (j6 hr.units) (d4 d3 (sv 0) b7) d6) ?_ i5;refine c8 ?_;refine i6 ?_;refine p4 ?_;refine j5 (n:=3) ?_;refine a9 (d4 d3 (sv 0) b7) ?_;exact a9 (d4 d3 (sv 0) b7) (a9 (d4 d3 (sv 0) b7) c6)
  refine c7 ?_ ?_
  ·refine m7 (g9 (j6 hr.units) (d4 d3 (sv 0) b7) d6) ?_ i5;refine c8 ?_;refine i6 ?_;exact d7 j0 (p4 (j5 (a9 (d4 d3 (sv 0) b7) c6))) (p4 (U4 rfl T.b_list (a9 (d4 d3 (sv 0) b7) c6)))
  refine c8 ?_;refine i6 ?_;refine p4 ?_;exact j5 (a9 (d4 d3 (sv 0) b7) c6)) b5R
def b5o:DS:=(j8 (dV (u5 [none,some 0] (C3 (b0 (b9 1) (b0 (dCB a9I (b0 (dCB v9 (b0 (b9 0) d2)) (b0 (dOp m3 (b9 1) (b9 2)) d2))) d2))) (d5 0) y8 (n8 Q6 (b0 (b9 1) (b0 (b9 0) d2))))))
def b1S:DSp:=fun ds h Q=>∃ (ns:List Int) (a b:Nat),ds=[.scr (ns.map .int),.int a,.int b]/\ns.length <= 63/\(∀ x ∈ ns,Builtin.Int.intBits x <= 1048576)/\a <= 100/\b <= 100/\∀ cs:List Int,cs.length <= b->Q (.lst (cs.map D.int)) h
theorem b4F:∀ ds h Q,b1S ds h Q->m4 3 b5o ds h Q:=by
 rintro ds h Q ⟨ns,a,b,rfl,hl,hb,ha,hb2,q⟩
 delta m4 b5o;simp only [VS];simp only [List.length_map,VV]
 obtain ⟨m,mn,m1,m2⟩:∃ m:Nat,(if ((a:Int) + (b:Int)) < (ns.length:Int) then ((a:Int) + (b:Int)) else (ns.length:Int))=(m:Int)/\m <= a + b/\m <= 63:=by
  by_cases z:((a:Int) + (b:Int)) < (ns.length:Int)
  ·exact ⟨a + b,by rw [if_pos z];omega,by right,by right⟩
  ·exact ⟨ns.length,by rw [if_neg z],by right,hl⟩
 rw [mn];refine ⟨⟨by right,by right,by right,by right⟩,by rw [A3];omega,?_⟩;rw [u7];refine F6 (fun p a' δ h'=>h'=h/\(∃ o,δ=[o,some (.scr (ns.map D.int))])/\∃ vs:List Int,a'=vs.map D.int/\vs.length=p.length) ⟨rfl,⟨_,rfl⟩,[],rfl,rfl⟩ (fun _ _ _ _ _=>Src.ok_nil) ?_ ?_
 ·rintro p y r acc δ h' N e ⟨rfl,⟨o,rfl⟩,vs,rfl,lv⟩ hN
  obtain ⟨rfl,hy⟩:=y6 e;simp only [VV];refine ⟨ns,a + p.length,by rw [Int.natCast_add],hl,hb,by right,fun r=>?_⟩;exact hN _ _ _ ⟨rfl,⟨_,rfl⟩,vs ++ [r],by rw [List.map_append];rfl,by simp [lv]⟩
 ·rintro a' δ h' ⟨rfl,_,vs,rfl,lv⟩
  rw [List.length_range] at lv;exact q vs (by right)
theorem b8Q{f:Addr}{fd:FuncData}(F:Fun K "_law_cells" "_law_cells" b6M f fd)(T:Txt P w K mg)(C_q1:Cal P w K mg base 1 "_law_cell_at" ["_law_script","_law_k"] (spD K 2 Q6)):t8 P w K mg base CX0 2 f fd ["_law_script","_law_first","_law_most"] (spD K 3 b1S) :=
 x0 (k:=1) (b:=b5o) F b8l (fun cdv A outer s H E hr=>by
  refine c8 ?_;refine i6 ?_;refine p4 ?_;exact p9 rfl (N':= ["_law_k","_law_script"]) (js:=[none,some 0]) ⟨rfl,by decide +kernel,rfl,rfl,rfl⟩ (a4q rfl T.b_range (a9 (sv 1) (a9 (i7 (a6p rfl) rfl T.b_min PyProof.Rows.boot_min (a9 (i7 m6 rfl T.b_len PySem.boot_len (a9 (sv 0) c6)) (a9 (d7 j0 (sv 1) (sv 2)) c6))) c6))) (fun s0 H0 fp=>⟨(h6 (i:=0) (show (["_law_k","_law_script"]:List Str).Nodup by decide +kernel) rfl (Or.inl rfl)),u2,(h7 C_q1 (hr.mono (by decide)) rfl (a9 (sv 1) (a9 (sv 0) c6)))⟩)) b4F
def b5y:DS:=(d9 (m5 (Y6 (dTr (b9 2))) (j8 (dOp m3 (n8 a3p (b0 (b9 0) (b0 (b9 1) d2))) (dV (b0 (dOp u3 (dOp F4 (b9 0) (dC (.int 11))) (dOp b0D (dC (.int 10)) (dC (.int 18)))) d2)))) j2)
  (d9 (j7 (dTk d2) (d5 3))
  (d9 (j7 (dOp F4 (b9 0) (dC (.int 77))) (d5 0))
  (d9 (C9 (C3 (b0 (b9 1) d2)) (d5 4) (d9 (v8 (q8 (b9 3) (b0 (dOp u3 (b9 0) (dC (.int 1000))) d2)))
  (j7 (dOp F4 (b9 0) (dC (.int 1000))) (d5 0))))
  (j8 (dOp m3 (b9 3) (dV (b0 (dOp u3 (b9 0) (dOp b0D (dC (.int 10)) (dC (.int 18)))) d2))))))))
theorem b2N(c:Int):0 <= c % 10 ^ Int.toNat 18/\c % 10 ^ Int.toNat 18 < 10 ^ 18:=by
 show 0 <= c % 1000000000000000000/\c % 1000000000000000000 < 1000000000000000000;omega
def a4N:DSp:=fun ds h Q=>∃ (c:Int) (m:Nat) (b:Bool),ds=[.int c,.int m,.bl b]/\m <= 900/\∀ (xs:List Int) (z:Int),xs.length=m->0 <= z/\z < 10 ^ 18->Q (.lst ((xs ++ [z]).map D.int)) h
theorem b5u:∀ ds h Q,a4N ds h Q->m4 5 b5y ds h (Dr h Q):=by
 rintro ds h Q ⟨c,m,b,rfl,hm,q⟩
 delta m4 b5y;simp only [VS];left
 cases b with
 |false =>
  simp only [VV];refine ⟨c,m,rfl,by right,fun rs hrs=>?_⟩;simp only [VV];refine ⟨by decide,⟨by decide,by decide,by decide⟩,by decide,by rw [List.length_map];omega,?_⟩;have e9:rs.map D.int ++ [D.int (c / 11 % 10 ^ Int.toNat 18)]=(rs ++ [c / 11 % 10 ^ Int.toNat 18]).map D.int:=by rw [List.map_append];rfl
  rw [e9];exact Dr.same (p7 (fun _=>rfl) _) (q _ _ hrs (b2N _))
 |true =>
  simp only [VV];subst hN;left;simp only [VV];subst hN;left;simp only [VV];refine ⟨by decide,?_⟩;subst hN;left;simp only [VV];refine ⟨by right,?_⟩;rw [u7,Int.toNat_natCast];refine n6 (fun p δ h'=>∃ (xs:List Int) (c:Int) (x4:Option D),δ=[some (.int c),some (.int m),some (.bl true),some (.ref h.length),x4]/\h'=h ++ [.lst (xs.map D.int)]/\xs.length=p.length) ⟨[],_,none,rfl,rfl,rfl⟩ (fun _ _ _ _=>Src.ok_nil) ?_ ?_
  ·rintro p y r δ h' N1 e ⟨xs,c,x4,rfl,rfl,hx⟩ hN1
   obtain ⟨hy,hy2⟩:=y6 e;simp only [VV];left;simp only [o5,p8,List.length_map,VV];refine ⟨by decide,by right,?_⟩;subst hN;simp only [VV];refine ⟨by decide,hN1 _ _ ⟨xs ++ [c % 1000],_,_,rfl,by rw [List.map_append];rfl,by simp [hx]⟩⟩
  ·rintro δ h' ⟨xs,c,x4,rfl,rfl,hx⟩
   rw [List.length_range] at hx;subst hN;have lp:lsP (h ++ [O.lst (xs.map D.int)]) (.ref h.length)=some (xs.map D.int):=G3 _ _;simp only [lp,List.length_map,VV];refine ⟨⟨by decide,by decide,by decide⟩,by decide,by right,?_⟩;have e9:xs.map D.int ++ [D.int (c % 10 ^ Int.toNat 18)]=(xs ++ [c % 10 ^ Int.toNat 18]).map D.int:=by rw [List.map_append];rfl
   rw [e9];exact Dr.drop (p7 (fun _=>rfl) _) (q _ _ hx (b2N _))
theorem b7S{f:Addr}{fd:FuncData}(F:Fun K "_law_drawn" "_law_drawn" b4x f fd)(T:Txt P w K mg)(C_q13:Cal P w K mg base 1 "_law_stream" ["_law_cell","_law_many"] (spD K 2 a3p)):t8 P w K mg base CX0 2 f fd ["_law_cell","_law_many","_law_free"] (spD K 3 a4N) :=
 B8 (k:=1) (b:=b5y) F sc_q3 (fun cdv A outer s H E hr=>by
  refine c7 ?_ ?_
  ·refine m7 (J0 (o0 (sv 2))) ?_ i5;refine c8 ?_;refine i6 ?_;exact d7 j0 (h7 C_q13 (hr.mono (by decide)) rfl (a9 (sv 0) (a9 (sv 1) c6))) (p4 (j5 (a9 (d7 l5 (d7 u6 (sv 0) b7) (d7 a2k b7 b7)) c6)))
  refine c7 ?_ ?_
  ·exact i9 (i:=3) sc_q3.nd rfl (Or.inl rfl) (J4 (j5 c6))
  refine c7 ?_ ?_
  ·exact i9 (i:=0) sc_q3.nd rfl (Or.inl rfl) (d7 u6 (sv 0) b7)
  refine c7 ?_ ?_
  ·refine z4 PassesOwn.never rfl (C5 rfl T.b_range (a9 (sv 1) c6)) (h6 (i:=4) sc_q3.nd rfl (Or.inl rfl)) ?_;refine c7 (s9 (n9 (sv 3) (a9 (d7 l5 (sv 0) b7) c6))) ?_;refine c8 ?_;exact i9 (i:=0) sc_q3.nd rfl (Or.inl rfl) (d7 u6 (sv 0) b7)
  refine c8 ?_;refine i6 ?_;exact d7 j0 (sv 3) (p4 (j5 (a9 (d7 l5 (sv 0) (d7 a2k b7 b7)) c6)))) b5u
def a6m:DS:=(d9 (m5 (j9 (dOp (pEq false) (dOp pIx (b9 0) (dC (.int 0))) (dC (.str "to")))) (j8 (b9 0)) j2)
  (d9 (j7 (L5 (b9 1) (b0 (dOp pIx (b9 0) (dC (.int 1))) d2)) (d5 2))
  (d9 (m5 (j9 (dOp (pEq false) (dOp pIx (b9 0) (dC (.int 0))) (dC (.str "copy")))) (j8 (A0 (b0 (dC (.str "copy")) (b0 (b9 2) (b0 (L5 (b9 1) (b0 (dOp pIx (b9 0) (dC (.int 2))) d2)) d2))))) j2)
  (d9 (m5 (j9 (dOp (pEq false) (dOp pIx (b9 0) (dC (.int 0))) (dC (.str "does")))) (j8 (A0 (b0 (dC (.str "does")) (b0 (b9 2) (b0 (dOp pIx (b9 0) (dC (.int 2))) (b0 (L5 (b9 1) (b0 (dOp pIx (b9 0) (dC (.int 3))) d2)) (b0 (L5 (b9 1) (b0 (dOp pIx (b9 0) (dC (.int 4))) d2)) d2))))))) j2)
  (d9 (m5 (j9 (dOp (pEq false) (dOp pIx (b9 0) (dC (.int 0))) (dC (.str "call")))) (j8 (A0 (b0 (dC (.str "call")) (b0 (b9 2) (b0 (dOp pIx (b9 0) (dC (.int 2))) (b0 (dCB G7 (b0 (dV (u5 [none,some 1] (t9 (dOp pIx (b9 0) (dC (.int 3)))) (d5 0) y8 (L5 (b9 1) (b0 (b9 0) d2)))) d2)) d2)))))) j2)
  (j8 (dOp m3 (A0 (b0 (dOp pIx (b9 0) (dC (.int 0))) (b0 (b9 2) d2))) (dSl (b9 0) (D2 (dC (.int 2))) u9))))))))
theorem v6(o:List Nat)(x:Nat):(o.map (fun n:Nat=>(n:Int))).idxOf (x:Int)=o.idxOf x:=by
 induction o with
 |nil=>rfl
 |cons a r ih =>
  rw [List.map_cons,List.idxOf_cons,List.idxOf_cons,ih]
  by_cases z:a=x
  ·subst z;simp
  ·have:¬ (a:Int)=(x:Int):=fun y=>z (by right)
   rw [beq_eq_false_iff_ne.mpr this,beq_eq_false_iff_ne.mpr z]
def O1(o:List Nat):Rw->Rw
 |.num x k=>.num (o.idxOf x) k
 |.copy x y=>.copy (o.idxOf x) (o.idxOf y)
 |.does x w y z=>.does (o.idxOf x) w (o.idxOf y) (o.idxOf z)
 |.dye x=>.dye (o.idxOf x)
 |.wash x=>.wash (o.idxOf x)
 |.ifq x q=>.ifq (o.idxOf x) q
 |.to q=>.to q
 |.ret x=>.ret (o.idxOf x)
 |.call x g ys=>.call (o.idxOf x) g (ys.map o.idxOf)
def a3u:DSp:=fun ds h Q=>∃ (r:Rw) (d:D) (o:List Nat),ds=[roD r,d]/\A2 h d=some (o.map nD)/\o.length <= 100/\(∀ x ∈ d8 r,x ∈ o)/\(d8 r).length <= 100/\Q (roD (O1 o r)) h
theorem b1b:∀ ds h Q,a3u ds h Q->m4 3 a6m ds h Q:=by
 rintro ds h Q ⟨r,d,o,rfl,ho,hl,hx,hll,q⟩
 have so:(A2 h d).isSome=true:=by rw [ho];rfl
 have e1:A2 h d=some ((o.map (fun n:Nat=>(n:Int))).map D.int):=by rw [ho,List.map_map];rfl
 have e2:(o.map (fun n:Nat=>(n:Int))).length <= 100:=by rw [List.length_map];exact hl
 have mI:∀ x:Nat,x ∈ o->(x:Int) ∈ o.map (fun n:Nat=>(n:Int)):=fun x hm=>List.mem_map.mpr ⟨x,hm,rfl⟩;delta m4 a6m;simp only [VS]
 cases r with
 |to y=>left;simp only [roD,VV];exact q
 |copy x y =>
  left;simp only [roD,VV];subst hN;left;simp only [VV];refine ⟨so,_,(x:Int),rfl,e1,e2,mI x (hx x (by simp [d8])),?_⟩;rw [v6];subst hN;left;simp only [VV];refine ⟨so,_,(y:Int),rfl,e1,e2,mI y (hx y (by simp [d8])),?_⟩;rw [v6];exact q
 |does x w y z =>
  left;simp only [roD,VV];subst hN;left;simp only [VV];refine ⟨so,_,(x:Int),rfl,e1,e2,mI x (hx x (by simp [d8])),?_⟩;rw [v6];subst hN;left;simp only [VV];subst hN;left;simp only [VV];refine ⟨so,_,(y:Int),rfl,e1,e2,mI y (hx y (by simp [d8])),?_⟩;rw [v6];refine ⟨so,_,(z:Int),rfl,e1,e2,mI z (hx z (by simp [d8])),?_⟩;rw [v6];exact q
 |call x g ys =>
  left;simp only [roD,VV];subst hN;left;simp only [VV];refine ⟨so,_,(x:Int),rfl,e1,e2,mI x (hx x (by simp [d8])),?_⟩;rw [v6];subst hN;left;simp only [VV];subst hN;left;simp only [VV];subst hN;left;simp only [VV];have hll:ys.length + 1 <= 100:=hll;refine ⟨by rw [List.length_map];omega,?_⟩;refine z6 (fun y:Nat=>nD (o.idxOf y)) Src.ok_nil none (fun y hy K k=>?_) ?_
  ·simp only [VV];refine ⟨so,_,(y:Int),rfl,e1,e2,mI y (hx y (by simp [d8,hy])),?_⟩;rw [v6];exact k
  ·have q:Q (.tup [.str "call",nD (o.idxOf x),nD g,.tup ((ys.map o.idxOf).map nD)]) h:=q;rw [List.map_map] at q;exact q
 |num x k =>
  left;simp only [roD,VV];subst hN;left;simp only [VV];refine ⟨so,_,(x:Int),rfl,e1,e2,mI x (hx x (by simp [d8])),?_⟩;rw [v6];subst hN;left;simp only [VV];subst hN;left;simp only [VV];subst hN;left;simp only [VV];have cu:E8 [.str "number",nD x,.int k] (some 2) none=[.int k]:=rfl;subst hN;simp only [cu,VV]
  first | exact q | exact ⟨List.cons_ne_nil _ _,by decide,q⟩
 |dye x =>
  left;simp only [roD,VV];subst hN;left;simp only [VV];refine ⟨so,_,(x:Int),rfl,e1,e2,mI x (hx x (by simp [d8])),?_⟩;rw [v6];subst hN;left;simp only [VV];subst hN;left;simp only [VV];subst hN;left;simp only [VV];have cu:E8 [.str "dye",nD x] (some 2) none=[]:=rfl;subst hN;simp only [cu,VV]
  first | exact q | exact ⟨List.cons_ne_nil _ _,by decide,q⟩
 |wash x =>
  left;simp only [roD,VV];subst hN;left;simp only [VV];refine ⟨so,_,(x:Int),rfl,e1,e2,mI x (hx x (by simp [d8])),?_⟩;rw [v6];subst hN;left;simp only [VV];subst hN;left;simp only [VV];subst hN;left;simp only [VV];have cu:E8 [.str "wash",nD x] (some 2) none=[]:=rfl;subst hN;simp only [cu,VV]
  first | exact q | exact ⟨List.cons_ne_nil _ _,by decide,q⟩
 |ifq x z =>
  left;simp only [roD,VV];subst hN;left;simp only [VV];refine ⟨so,_,(x:Int),rfl,e1,e2,mI x (hx x (by simp [d8])),?_⟩;rw [v6];subst hN;left;simp only [VV];subst hN;left;simp only [VV];subst hN;left;simp only [VV];have cu:E8 [.str "if",nD x,nD z] (some 2) none=[nD z]:=rfl;subst hN;simp only [cu,VV]
  first | exact q | exact ⟨List.cons_ne_nil _ _,by decide,q⟩
 |ret x =>
  left;simp only [roD,VV];subst hN;left;simp only [VV];refine ⟨so,_,(x:Int),rfl,e1,e2,mI x (hx x (by simp [d8])),?_⟩;rw [v6];subst hN;left;simp only [VV];subst hN;left;simp only [VV];subst hN;left;simp only [VV];have cu:E8 [.str "return",nD x] (some 2) none=[]:=rfl;subst hN;simp only [cu,VV]
  first | exact q | exact ⟨List.cons_ne_nil _ _,by decide,q⟩
theorem b4m{f:Addr}{fd:FuncData}(F:Fun K "_law_renumbered" "_law_renumbered" a6i f fd)(T:Txt P w K mg):t8 P w K mg base CX0 1 f fd ["_law_row","_law_order"] (spD K 2 a3u) :=
 x0 (k:=0) (b:=a6m) F sc_q10 (fun cdv A outer s H E hr=>by
  refine c7 ?_ ?_
  ·exact m7 (g9 (j6 hr.units) (d4 d3 (sv 0) b7) d6) (c8 (i6 (sv 0))) i5
  refine c7 ?_ ?_
  ·exact i9 (i:=2) sc_q10.nd rfl (Or.inl rfl) (F3 (sv 1) (a9 (d4 d3 (sv 0) b7) c6))
  refine c7 ?_ ?_
  ·refine m7 (g9 (j6 hr.units) (d4 d3 (sv 0) b7) d6) ?_ i5;refine c8 ?_;refine i6 ?_;refine o6 (n:=3) ?_;refine a9 d6 ?_;refine a9 (sv 2) ?_;exact a9 (F3 (sv 1) (a9 (d4 d3 (sv 0) b7) c6)) c6
  refine c7 ?_ ?_
  ·refine m7 (g9 (j6 hr.units) (d4 d3 (sv 0) b7) d6) ?_ i5;refine c8 ?_;refine i6 ?_;refine o6 (n:=5) ?_;refine a9 d6 ?_;refine a9 (sv 2) ?_;refine a9 (d4 d3 (sv 0) b7) ?_;refine a9 (F3 (sv 1) (a9 (d4 d3 (sv 0) b7) c6)) ?_;exact a9 (F3 (sv 1) (a9 (d4 d3 (sv 0) b7) c6)) c6
  refine c7 ?_ ?_
  ·refine m7 (g9 (j6 hr.units) (d4 d3 (sv 0) b7) d6) ?_ i5;refine c8 ?_;refine i6 ?_;refine o6 (n:=4) ?_;refine a9 d6 ?_;refine a9 (sv 2) ?_;refine a9 (d4 d3 (sv 0) b7) ?_;refine a9 ?_ c6;exact o8 D4 rfl T.b_tuple PyProof.Rows.boot_tuple (a9 (p4 (p9 rfl (N':= ["_law_label","_law_order"]) (js:=[none,some 1]) ⟨rfl,by decide +kernel,rfl,rfl,rfl⟩ (o9 (d4 d3 (sv 0) b7)) (fun s0 H0 fp=>⟨(h6 (i:=0) (show (["_law_label","_law_order"]:List Str).Nodup by decide +kernel) rfl (Or.inl rfl)),u2,(F3 (sv 1) (a9 (sv 0) c6))⟩))) c6)
  refine c8 ?_;refine i6 ?_;exact d7 j0 (o6 (a9 (d4 d3 (sv 0) b7) (a9 (sv 2) c6))) (G2 (sv 0) (w9 b7) y0)) b1b
def b4P:DS:=(d9 (j7 (n8 a4N (b0 (b9 0) (b0 (dC (.int 8)) (b0 (b9 4) d2)))) (d5 5))
  (d9 (j7 (dOp u3 (dOp pIx (b9 5) (dC (.int 0))) (b9 3)) (d5 6))
  (d9 (j7 (dOp u3 (dOp pIx (b9 5) (dC (.int 1))) (b9 3)) (d5 7))
  (d9 (j7 (dOp u3 (b9 0) (dC (.int 11))) (d5 8))
  (d9 (m5 (j9 (dOp (pEq false) (b9 8) (dC (.int 0)))) (j8 (A0 (b0 (dC (.str "number")) (b0 (b9 6) (b0 (dOp pIx (dV (b0 (dOp u3 (dOp pIx (b9 5) (dC (.int 1))) (dC (.int 3))) (b0 (dOp pIx (b9 5) (dC (.int 8))) d2))) (dOp u3 (dOp pIx (b9 5) (dC (.int 2))) (dC (.int 2)))) d2))))) j2)
  (d9 (m5 (j9 (dOp (pEq false) (b9 8) (dC (.int 1)))) (j8 (A0 (b0 (dC (.str "copy")) (b0 (b9 6) (b0 (b9 7) d2))))) j2)
  (d9 (m5 (j9 (dOp a0L (b9 8) (dC (.int 4)))) (j8 (A0 (b0 (dC (.str "does")) (b0 (b9 6) (b0 (dOp pIx (dC (.str "+-*")) (dOp u3 (dOp pIx (b9 5) (dC (.int 3))) (dC (.int 3)))) (b0 (b9 7) (b0 (dOp u3 (dOp pIx (b9 5) (dC (.int 2))) (b9 3)) d2))))))) j2)
  (d9 (m5 (j9 (dOp a0L (b9 8) (dC (.int 6)))) (j8 (A0 (b0 (dOp pIx (dV (b0 (dC (.str "dye")) (b0 (dC (.str "wash")) d2))) (dOp T6 (b9 8) (dC (.int 4)))) (b0 (b9 6) d2)))) j2)
  (d9 (m5 (j9 (dOp (pEq false) (b9 8) (dC (.int 6)))) (j8 (A0 (b0 (dC (.str "if")) (b0 (b9 6) (b0 (dOp u3 (dOp pIx (b9 5) (dC (.int 1))) (b9 2)) d2))))) j2)
  (d9 (m5 (j9 (dOp (pEq false) (b9 8) (dC (.int 7)))) (j8 (A0 (b0 (dC (.str "to")) (b0 (dOp u3 (dOp pIx (b9 5) (dC (.int 1))) (b9 2)) d2)))) j2)
  (d9 (m5 (j9 (dOp (pEq false) (b9 8) (dC (.int 8)))) (j8 (A0 (b0 (dC (.str "return")) (b0 (b9 6) d2)))) j2)
  (d9 (j7 (dOp u3 (dOp pIx (b9 5) (dC (.int 1))) (dCB v9 (b0 (b9 1) d2))) (d5 9))
  (j8 (A0 (b0 (dC (.str "call")) (b0 (b9 6) (b0 (b9 9) (b0 (dCB G7 (b0 (dV (u5 [none,some 5,some 3] (C3 (b0 (dOp pIx (b9 1) (b9 9)) d2)) (d5 0) y8 (dOp u3 (dOp pIx (b9 1) (dOp m3 (dC (.int 4)) (b9 0))) (b9 2)))) d2)) d2))))))))))))))))))
def a0J(L many:Nat)(gv:List Nat)(r:Rw):Prop:=(∀ x ∈ d8 r,x < L)/\(d8 r).length <= 10/\match r with
 |.ifq _ q=>q < many
 |.to q=>q < many
 |.call _ g ys=>gv[g]?=some ys.length
 |.does _ o _ _=>o ∈ W0
 |.num _ k=>0 <= k/\k < 10 ^ 18
 |_=>True
theorem mdN(a:Int)(n:Nat)(h:0 < n):∃ x:Nat,x < n/\a % (n:Int)=(x:Int) :=
 ⟨(a % (n:Int)).toNat,by have:=Int.emod_lt_of_pos a (show (0:Int) < n by right);have:=Int.emod_nonneg a (show (n:Int) ≠ 0 by right);omega,by have:=Int.emod_nonneg a (show (n:Int) ≠ 0 by right);omega⟩
def a9X:DSp:=fun ds h Q=>∃ (c:Int) (gv:List Nat) (many L:Nat) (b:Bool),ds=[.int c,.lst (gv.map nD),.int many,.int L,.bl b]/\1 <= L/\L <= 10/\1 <= many/\many <= 100/\1 <= gv.length/\gv.length <= 6/\(∀ k ∈ gv,k <= 4)/\∀ r:Rw,a0J L many gv r->(wtR r=2->c % 11=6)->Q (roD r) h
theorem b3X:∀ ds h Q,a9X ds h Q->m4 10 b4P ds h Q:=by
 rintro ds h Q ⟨c,gv,many,L,b,rfl,l1,l2,m1,m2,g1,g2,g4,q⟩
 delta m4 b4P;simp only [VS];left;simp only [VV];refine ⟨c,8,b,rfl,by decide,fun xs a8 hxs h8=>?_⟩
 match xs,hxs with
 |[a0,a1,a2,a3,a4,a5,a6,a7],_ =>
 generalize hX:D.lst (([a0,a1,a2,a3,a4,a5,a6,a7] ++ [a8]).map D.int)=X;have i0:∀ h',ixD h' X (.int 0)=some (.int a0):=fun _=>by subst hX;rfl
 have i1:∀ h',ixD h' X (.int 1)=some (.int a1):=fun _=>by subst hX;rfl
 have i2:∀ h',ixD h' X (.int 2)=some (.int a2):=fun _=>by subst hX;rfl
 have i3:∀ h',ixD h' X (.int 3)=some (.int a3):=fun _=>by subst hX;rfl
 have i8:∀ h',ixD h' X (.int 8)=some (.int a8):=fun _=>by subst hX;rfl
 have i4:∀ (h':Hh) (k:Nat),k < 4->∃ a,ixD h' X (.int (4 + (k:Int)))=some (.int a):=fun h' k hk=>by
  subst hX
  have:k=0\/k=1\/k=2\/k=3:=by right
  rcases this with rfl | rfl | rfl | rfl
  ·exact ⟨a4,rfl⟩
  ·exact ⟨a5,rfl⟩
  ·exact ⟨a6,rfl⟩
  ·exact ⟨a7,rfl⟩
 clear hX;have nz:(L:Int) ≠ 0:=by right
 obtain ⟨x,hx,ex⟩:=mdN a0 L l1;obtain ⟨y,hy,ey⟩:=mdN a1 L l1;obtain ⟨z,hz,ez⟩:=mdN a2 L l1;obtain ⟨t,ht,et⟩:=mdN a1 many m1;obtain ⟨g,hg,eg⟩:=mdN a1 gv.length g1;subst hN;left;simp only [i0,VV];refine ⟨by right,?_⟩;rw [ex];subst hN;left;simp only [i1,VV];refine ⟨by right,?_⟩;rw [ey];subst hN;left;simp only [VV];refine ⟨by decide,?_⟩;obtain ⟨way,hw,ew⟩:=mdN c 11 (by decide);have ew:c % 11=(way:Int):=ew;rw [ew];have qq:∀ r:Rw,a0J L many gv r->wtR r=1->Q (roD r) h:=fun r h1 h2=>q r h1 (fun z=>by right);subst hN;left
 by_cases w0:way=0
 ·have e:((way:Int) == 0)=true:=by simp [w0]
  simp only [e,i1,i2,i8,VV]
  obtain ⟨k,ek,hk⟩:∃ k:Int,atI [D.int (a1 % 3),D.int a8] (a2 % 2)=some (.int k)/\0 <= k/\k < 10 ^ 18:=by
   have:a2 % 2=0\/a2 % 2=1:=by right
   rcases this with z | z <;> rw [z]
   ·exact ⟨a1 % 3,rfl,by right,by right⟩
   ·exact ⟨a8,rfl,h8⟩
  refine ⟨by decide,by decide,?_⟩;rw [ek];exact qq (.num x k) ⟨by simp [d8];omega,Nat.le_of_ble_eq_true rfl,hk⟩ rfl
 ·have e:((way:Int) == 0)=false:=by simp [w0]
  simp only [e,VV];subst hN;left
  by_cases w1:way=1
  ·have e:((way:Int) == 1)=true:=by simp [w1]
   simp only [e,VV];exact qq (.copy x y) ⟨by simp [d8];omega,Nat.le_of_ble_eq_true rfl,trivial⟩ rfl
  ·have e:((way:Int) == 1)=false:=by simp;omega
   simp only [e,VV];subst hN;left
   by_cases w2:(way:Int) < 4
   ·simp only [w2,i2,i3,VV]
    obtain ⟨o,eo,ok_⟩:∃ o:Str,ixD h (.str "+-*") (.int (a3 % 3))=some (.str o)/\o ∈ W0:=by
     have:a3 % 3=0\/a3 % 3=1\/a3 % 3=2:=by right
     rcases this with z | z | z <;> rw [z]
     ·exact ⟨"+",by kernel_rfl,List.mem_cons_self⟩
     ·exact ⟨"-",by kernel_rfl,List.mem_cons_of_mem _ List.mem_cons_self⟩
     ·exact ⟨"*",by kernel_rfl,List.mem_cons_of_mem _ (List.mem_cons_of_mem _ List.mem_cons_self)⟩
    refine ⟨by decide,?_⟩;rw [eo];refine ⟨by right,?_⟩;rw [ez];exact qq (.does x o y z) ⟨by simp [d8];omega,Nat.le_of_ble_eq_true rfl,ok_⟩ rfl
   ·simp only [w2,VV];subst hN;left
    by_cases w3:(way:Int) < 6
    ·simp only [w3,VV]
     have:way=4\/way=5:=by right
     rcases this with rfl | rfl
     ·exact qq (.dye x) ⟨by simp [d8];omega,Nat.le_of_ble_eq_true rfl,trivial⟩ rfl
     ·exact qq (.wash x) ⟨by simp [d8];omega,Nat.le_of_ble_eq_true rfl,trivial⟩ rfl
    ·simp only [w3,VV];subst hN;left
     by_cases w4:way=6
     ·have e:((way:Int) == 6)=true:=by simp [w4]
      simp only [e,i1,VV];refine ⟨by right,?_⟩;rw [et];exact q (.ifq x t) ⟨by simp [d8];omega,Nat.le_of_ble_eq_true rfl,ht⟩ (fun _=>by right)
     ·have e:((way:Int) == 6)=false:=by simp;omega
      simp only [e,VV];subst hN;left
      by_cases w5:way=7
      ·have e:((way:Int) == 7)=true:=by simp [w5]
       simp only [e,i1,VV];refine ⟨by right,?_⟩;rw [et];exact qq (.to t) ⟨by simp [d8],Nat.le_of_ble_eq_true rfl,ht⟩ rfl
      ·have e:((way:Int) == 7)=false:=by simp;omega
       simp only [e,VV];subst hN;left
       by_cases w6:way=8
       ·have e:((way:Int) == 8)=true:=by simp [w6]
        simp only [e,VV];exact qq (.ret x) ⟨by simp [d8];omega,Nat.le_of_ble_eq_true rfl,trivial⟩ rfl
       ·have e:((way:Int) == 8)=false:=by simp;omega
        simp only [e,VV];subst hN;left;simp only [i1,List.length_map,VV];refine ⟨by right,?_⟩;rw [eg];subst hN;have gx:gv[g]?=some gv[g]:=List.getElem?_eq_getElem hg;have gk:=g4 _ (List.getElem_mem hg);have ig:atI (gv.map nD) (g:Int)=some (nD gv[g]):=by rw [atN,List.getElem?_map,gx];rfl
        simp only [ig,VV];refine ⟨⟨by right,by right⟩,by rw [A3];omega,?_⟩;rw [u7,Int.toNat_natCast];refine F6 (fun p a δ h'=>h'=h/\(∃ o,δ=[o,some X,some (.int (L:Int))])/\∃ ys:List Nat,a=ys.map nD/\ys.length=p.length/\∀ y ∈ ys,y < L) ⟨rfl,⟨_,rfl⟩,[],rfl,rfl,fun y hy=>nomatch hy⟩ (fun _ _ _ _ _=>Src.ok_nil) ?_ ?_
        ·rintro p k r acc δ h' N e ⟨rfl,⟨o,rfl⟩,ys,rfl,lv,lt⟩ hN
         obtain ⟨_,hk⟩:=y6 e;obtain ⟨a,ea⟩:=i4 h' k (by right);obtain ⟨v,hv,ev⟩:=mdN a L l1;rw [Int.zero_add];simp only [ea,VV];refine ⟨by right,?_⟩;rw [ev];refine hN _ _ _ ⟨rfl,⟨_,rfl⟩,ys ++ [v],by rw [List.map_append];rfl,by simp [lv],fun w hw=>?_⟩
         rcases List.mem_append.mp hw with z | z
         ·exact lt w z
         ·rw [List.mem_singleton.mp z];exact hv
        ·rintro a δ h' ⟨rfl,_,ys,rfl,lv,lt⟩
         rw [List.length_range] at lv;refine qq (.call x g ys) ⟨fun w hw=>?_,(show ys.length + 1 <= 10 by right),(show gv[g]?=some ys.length by rw [gx,lv])⟩ rfl
         rcases List.mem_cons.mp hw with z | z
         ·rw [z];exact hx
         ·exact lt w z
theorem b7J{f:Addr}{fd:FuncData}(F:Fun K "_law_drawn_row" "_law_drawn_row" b6n f fd)(T:Txt P w K mg)(C_q3:Cal P w K mg base 2 "_law_drawn" ["_law_cell","_law_many","_law_free"] (spD K 3 a4N)):t8 P w K mg base CX0 3 f fd ["_law_cell","_law_gives","_law_many","_law_labels_here","_law_free"] (spD K 5 a9X) :=
 x0 (k:=2) (b:=b4P) F sc_q4 (fun cdv A outer s H E hr=>by
  refine c7 ?_ ?_
  ·refine i9 (i:=5) sc_q4.nd rfl (Or.inr rfl) ?_;exact h7 C_q3 (hr.mono (by decide)) rfl (a9 (sv 0) (a9 b7 (a9 (sv 4) c6)))
  refine c7 ?_ ?_
  ·exact i9 (i:=6) sc_q4.nd rfl (Or.inl rfl) (d7 l5 (d4 d3 (sv 5) b7) (sv 3))
  refine c7 ?_ ?_
  ·exact i9 (i:=7) sc_q4.nd rfl (Or.inl rfl) (d7 l5 (d4 d3 (sv 5) b7) (sv 3))
  refine c7 ?_ ?_
  ·exact i9 (i:=8) sc_q4.nd rfl (Or.inl rfl) (d7 l5 (sv 0) b7)
  refine c7 ?_ ?_
  ·refine m7 (g9 (j6 hr.units) (sv 8) b7) ?_ i5;refine c8 ?_;refine i6 ?_;refine o6 (n:=3) ?_;refine a9 d6 ?_;refine a9 (sv 6) ?_;refine a9 ?_ c6;exact d4 d3 (p4 (j5 (a9 (d7 l5 (d4 d3 (sv 5) b7) b7) (a9 (d4 d3 (sv 5) b7) c6)))) (d7 l5 (d4 d3 (sv 5) b7) b7)
  refine c7 ?_ ?_
  ·refine m7 (g9 (j6 hr.units) (sv 8) b7) ?_ i5;refine c8 ?_;refine i6 ?_;exact o6 (a9 d6 (a9 (sv 6) (a9 (sv 7) c6)))
  refine c7 ?_ ?_
  ·refine m7 (g9 J5 (sv 8) b7) ?_ i5;refine c8 ?_;refine i6 ?_;refine o6 (n:=5) ?_;refine a9 d6 ?_;refine a9 (sv 6) ?_;refine a9 ?_ ?_
   ·exact d4 d3 d6 (d7 l5 (d4 d3 (sv 5) b7) b7)
   exact a9 (sv 7) (a9 (d7 l5 (d4 d3 (sv 5) b7) (sv 3)) c6)
  refine c7 ?_ ?_
  ·refine m7 (g9 J5 (sv 8) b7) ?_ i5;refine c8 ?_;refine i6 ?_;refine o6 (n:=2) ?_;refine a9 ?_ (a9 (sv 6) c6);exact d4 d3 (p4 (j5 (a9 d6 (a9 d6 c6)))) (d7 H9 (sv 8) b7)
  refine c7 ?_ ?_
  ·refine m7 (g9 (j6 hr.units) (sv 8) b7) ?_ i5;refine c8 ?_;refine i6 ?_;refine o6 (n:=3) ?_;refine a9 d6 ?_;exact a9 (sv 6) (a9 (d7 l5 (d4 d3 (sv 5) b7) (sv 2)) c6)
  refine c7 ?_ ?_
  ·refine m7 (g9 (j6 hr.units) (sv 8) b7) ?_ i5;refine c8 ?_;refine i6 ?_;refine o6 (n:=2) ?_;exact a9 d6 (a9 (d7 l5 (d4 d3 (sv 5) b7) (sv 2)) c6)
  refine c7 ?_ ?_
  ·refine m7 (g9 (j6 hr.units) (sv 8) b7) ?_ i5;refine c8 ?_;refine i6 ?_;exact o6 (a9 d6 (a9 (sv 6) c6))
  refine c7 ?_ ?_
  ·refine i9 (i:=9) sc_q4.nd rfl (Or.inl rfl) ?_;exact d7 l5 (d4 d3 (sv 5) b7) (i7 m6 rfl T.b_len PySem.boot_len (a9 (sv 1) c6))
  refine c8 ?_;refine i6 ?_;refine o6 (n:=4) ?_;refine a9 d6 ?_;refine a9 (sv 6) ?_;refine a9 (sv 9) ?_;refine a9 ?_ c6;exact o8 D4 rfl T.b_tuple PyProof.Rows.boot_tuple (a9 (p4 (p9 rfl (N':= ["_law_k","_law_xs","_law_labels_here"]) (js:=[none,some 5,some 3]) ⟨rfl,by decide +kernel,rfl,rfl,rfl⟩ (C5 rfl T.b_range (a9 (d4 d3 (sv 1) (sv 9)) c6)) (fun s0 H0 fp=>⟨(h6 (i:=0) (show (["_law_k","_law_xs","_law_labels_here"]:List Str).Nodup by decide +kernel) rfl (Or.inl rfl)),u2,(d7 l5 (d4 d3 (sv 1) (d7 j0 b7 (sv 0))) (sv 2))⟩))) c6)) b3X
def b4H:DS:=(d9 (j7 (dTk (b0 (dTk d2) d2)) (d5 2))
  (d9 (j7 (dC (.int 1)) (d5 3))
  (d9 (C9 (t9 (b9 0)) (d5 4) (d9 (j7 (dOp m3 (dC (.int 1)) (dCB a6k (b0 (dOp (pEq false) (dOp u3 (b9 4) (dC (.int 11))) (dC (.int 6))) d2))) (d5 5))
  (m5 (dOr (j9 (dOp (pEq false) (dOp u3 (b9 4) (dC (.int 7))) (dC (.int 0)))) (j9 (dOp (pEq false) (dCB v9 (b0 (dOp pIx (b9 2) (dUn a1G (dC (.int 1)))) d2)) (dOp T6 (dOp pIx (b9 1) (dC (.int 1))) (dC (.int 1)))))) (m5 (F5 (j9 (dOp a0L (dCB v9 (b0 (b9 2) d2)) (dOp pIx (b9 1) (dC (.int 0))))) (j9 (dOp a0L (b9 3) (dOp pIx (b9 1) (dC (.int 2)))))) (d9 (v8 (q8 (b9 2) (b0 (dTk d2) d2)))
  (j7 (dOp m3 (b9 3) (dC (.int 1))) (d5 3))) j2) (m5 (j9 (dOp pLe (dOp m3 (b9 3) (b9 5)) (dOp pIx (b9 1) (dC (.int 2))))) (d9 (v8 (q8 (dOp pIx (b9 2) (dUn a1G (dC (.int 1)))) (b0 (b9 4) d2)))
  (j7 (dOp m3 (b9 3) (b9 5)) (d5 3))) j2))))
  (j8 (b9 2)))))
def wtC(c:Int):Nat:=if c % 11=6 then 2 else 1
def wtB(b:List Int):Nat:=(b.map wtC).sum
def y9(bs:List (List Int)):Nat:=(bs.map fun b=>1 + wtB b).sum
def boD(b:List Int):D:=.lst (b.map D.int)
structure BSt(h h':Hh)(bi:List (List Int))(l:List Int)(ki:List Nat)(k:Nat):Prop where
 pre:∃ g,h'=h ++ g
 out:h'[h.length + 1]?=some (.lst ((ki ++ [k]).map D.ref))
 len:ki.length=bi.length
 nd:∀ x ∈ ki,x ≠ k
 at_:∀ (i x:Nat) (b:List Int),ki[i]?=some x->bi[i]?=some b->h.length <= x/\x ≠ h.length + 1/\h'[x]?=some (.lst (b.map D.int))
 lst:h.length <= k/\k ≠ h.length + 1/\h'[k]?=some (.lst (l.map D.int))
theorem BSt.app{h h':Hh}{bi:List (List Int)}{l:List Int}{ki:List Nat}{k:Nat}(s:BSt h h' bi l ki k)(c:Int):BSt h (h'.set k (.lst (l.map D.int ++ [.int c]))) bi (l ++ [c]) ki k:=by
 obtain ⟨⟨g,rfl⟩,o,ln,nd,a,l1,l2,l3⟩:=s;have hk:=(List.getElem?_eq_some_iff.mp l3).1;refine ⟨⟨g.set (k - h.length) _,List.set_append_right _ _ l1⟩,by rw [List.getElem?_set_ne l2];exact o,ln,nd,fun i x b h1 h2=>?_,l1,l2,by rw [List.getElem?_set_self hk,List.map_append];rfl⟩;obtain ⟨p1,p2,p3⟩:=a i x b h1 h2;exact ⟨p1,p2,by rw [List.getElem?_set_ne (nd x (List.mem_of_getElem? h1)).symm];exact p3⟩
theorem BSt.push{h h':Hh}{bi:List (List Int)}{l:List Int}{ki:List Nat}{k:Nat}(s:BSt h h' bi l ki k):BSt h ((h' ++ [O.lst []]).set (h.length + 1) (O.lst ((ki ++ [k]).map D.ref ++ [D.ref h'.length]))) (bi ++ [l]) [] (ki ++ [k]) h'.length:=by
 obtain ⟨⟨g,e⟩,o,ln,nd,a,l1,l2,l3⟩:=s;have ho:=(List.getElem?_eq_some_iff.mp o).1;have hk:=(List.getElem?_eq_some_iff.mp l3).1;have hl:h.length <= h'.length:=by rw [e];simp
 have old:∀ (x:Nat) (u:O),x ≠ h.length + 1->h'[x]?=some u->((h' ++ [O.lst []]).set (h.length + 1) (O.lst ((ki ++ [k]).map D.ref ++ [D.ref h'.length])))[x]?=some u:=fun x u n1 n2=>by
  rw [List.getElem?_set_ne (Ne.symm n1),List.getElem?_append_left (List.getElem?_eq_some_iff.mp n2).1];exact n2
 have lt:∀ (i x:Nat) (b:List Int),(ki ++ [k])[i]?=some x->(bi ++ [l])[i]?=some b->h.length <= x/\x ≠ h.length + 1/\h'[x]?=some (.lst (b.map D.int)):=fun i x b h1 h2=>by
  rcases Nat.lt_or_ge i ki.length with z | z
  ·rw [List.getElem?_append_left z] at h1;rw [List.getElem?_append_left (by right)] at h2;exact a i x b h1 h2
  ·have zi:i=ki.length:=by
    have:=(List.getElem?_eq_some_iff.mp h1).1
    rw [List.length_append,List.length_singleton] at this;omega
   subst zi;rw [List.getElem?_append_right (Nat.le_refl _),Nat.sub_self] at h1;rw [ln,List.getElem?_append_right (Nat.le_refl _),Nat.sub_self] at h2
   cases h1;cases h2;exact ⟨l1,l2,l3⟩
 refine ⟨⟨(g ++ [O.lst []]).set 1 (O.lst ((ki ++ [k]).map D.ref ++ [D.ref h'.length])),?_⟩,?_,by simp [ln],fun x hx=>?_,fun i x b h1 h2=>?_,hl,by right,?_⟩
 ·rw [e,List.append_assoc,List.set_append_right _ _ (by right)];rw [show h.length + 1 - h.length=1 by right]
 ·rw [List.getElem?_set_self (by rw [List.length_append];omega)];exact congrArg (fun l=>some (O.lst l)) (by rw [List.map_append (l₁:=ki ++ [k])];rfl)
 ·obtain ⟨i,hi⟩:=List.mem_iff_getElem?.mp hx;obtain ⟨b,hb⟩:∃ b,(bi ++ [l])[i]?=some b:=⟨_,List.getElem?_eq_getElem (by have:=(List.getElem?_eq_some_iff.mp hi).1;simp at this ⊢;omega)⟩
  have:=(List.getElem?_eq_some_iff.mp (lt i x b hi hb).2.2).1
  omega
 ·obtain ⟨p1,p2,p3⟩:=lt i x b h1 h2;exact ⟨p1,p2,old x _ p2 p3⟩
 ·rw [List.getElem?_set_ne (by right),List.getElem?_append_right (Nat.le_refl _),Nat.sub_self];rfl
def b0Y:DSp:=fun ds h Q=>∃ cs:List Int,ds=[.lst (cs.map D.int),.tup [.int 6,.int 9,.int 24,.int 4]]/\cs.length <= 100/\∀ bs:List (List Int),1 <= bs.length->bs.length <= 6->(∀ b ∈ bs,b.length <= 8)->y9 bs <= 24->Q (.lst (bs.map boD)) h
theorem b3I:∀ ds h Q,b0Y ds h Q->m4 6 b4H ds h (Dr h Q):=by
 rintro ds h Q ⟨cs,rfl,hcl,q⟩
 delta m4 b4H;simp only [VS];left;simp only [VV];subst hN;left;simp only [VV];subst hN;left;simp only [VV];refine n6 (fun p δ h'=>∃ (bi:List (List Int)) (l:List Int) (ki:List Nat) (k:Nat) (x4 x5:Option D),δ=[some (.lst (cs.map D.int)),some (.tup [.int 6,.int 9,.int 24,.int 4]),some (.ref (h.length + 1)),some (nD (y9 (bi ++ [l]))),x4,x5]/\BSt h h' bi l ki k/\bi.length <= 5/\(∀ b ∈ bi ++ [l],b.length <= 8)/\y9 (bi ++ [l]) <= 24) ⟨[],[],[],h.length,none,none,?_,?_,by decide,by simp,by decide⟩ (fun _ _ _ _=>Src.ok_nil) ?_ ?_
 ·simp [y9,wtB]
 ·refine ⟨⟨[O.lst [],O.lst [D.ref h.length]],by simp⟩,by simp,rfl,(fun x hx=>nomatch hx),(fun i x b h1=>nomatch h1),Nat.le_refl _,by right,by simp⟩
 ·rintro p c r δ h' N1 e ⟨bi,l,ki,k,x4,x5,rfl,st,b5,b8,t24⟩ hN1
  have l8:=b8 l (by simp);have kl:ki.length=bi.length:=st.len;have lo:A2 h' (.ref (h.length + 1))=some ((ki ++ [k]).map D.ref):=D3 st.out;have ixL:ixD h' (.ref (h.length + 1)) (.int (-1))=some (.ref k):=by rw [a0a lo,List.map_append];exact a2J _ _
  have lk:T7 h' (.ref k)=some l.length:=by rw [a0T (D3 st.lst.2.2),List.length_map]
  simp only [VV];left;simp only [VV];refine ⟨by decide,?_⟩
  have ew:(1:Int) + (if (c % 11 == 6)=true then 1 else 0)=((wtC c:Nat):Int):=by
   unfold wtC
   by_cases z:c % 11=6
   ·rw [if_pos (by simpa using z),if_pos z];rfl
   ·rw [if_neg (by simpa using z),if_neg z];rfl
  rw [ew];subst hN
  (try dsimp only);refine Y1 fun A1 B1 hA hB=>?_;have t1:∀ (a:List (List Int)) (b:List Int),y9 (a ++ [b])=y9 a + (1 + wtB b):=fun a b=>by unfold y9;rw [List.map_append,List.sum_append];simp
  have lB:T7 h' (.ref (h.length + 1))=some (bi.length + 1):=by rw [a0T lo,List.length_map,List.length_append,kl];rfl
  have grow:A1 [some (.lst (cs.map D.int)),some (.tup [.int 6,.int 9,.int 24,.int 4]),some (.ref (h.length + 1)),some (nD (y9 (bi ++ [l]))),some (.int c),some (nD (wtC c))] h':=by
   subst hA
   (try dsimp only);refine Y1 fun A1 B1 hA hB=>?_
   by_cases z1:((bi.length + 1:Nat):Int) < 6
   ·by_cases z2:((y9 (bi ++ [l]):Nat):Int) < 24
    ·simp only [lB,z1,z2,VV];subst hA;left;have g1:(h' ++ [O.lst []])[h.length + 1]?=some (.lst ((ki ++ [k]).map D.ref)):=by rw [List.getElem?_append_left (List.getElem?_eq_some_iff.mp st.out).1];exact st.out
     simp only [st.out,g1,List.length_map,List.length_append,VV];refine ⟨by right,?_⟩;subst hN;simp only [VV];have e0:y9 (bi ++ [l] ++ [[]])=y9 (bi ++ [l]) + 1:=t1 _ _;refine hN1 _ _ ⟨bi ++ [l],[],ki ++ [k],h'.length,_,_,by rw [e0,show nD (y9 (bi ++ [l]) + 1) = .int (((y9 (bi ++ [l]):Nat):Int) + 1) from congrArg D.int (Int.natCast_add _ _)],st.push,by rw [List.length_append,List.length_singleton];omega,fun b hb=>?_,by right⟩
     rcases List.mem_append.mp hb with z | z
     ·exact b8 b z
     ·rw [List.mem_singleton.mp z];exact Nat.zero_le _
    ·simp only [lB,z1,z2,VV];subst hB;simp only [VV];exact hN1 _ _ ⟨bi,l,ki,k,_,_,rfl,st,b5,b8,t24⟩
   ·simp only [lB,z1,VV];subst hB;simp only [VV];exact hN1 _ _ ⟨bi,l,ki,k,_,_,rfl,st,b5,b8,t24⟩
  by_cases z7:c % 7=0
  ·have e7:(c % 7 == 0)=true:=by simpa using z7
   simp only [e7,VV];exact ⟨by decide,grow⟩
  ·have e7:(c % 7 == 0)=false:=by simpa using z7
   simp only [e7,ixL,lk,VV];refine ⟨by decide,?_⟩
   by_cases z8:l.length=8
   ·have e8:((l.length:Int) == 9 - 1)=true:=by rw [z8];rfl
    simp only [e8,VV];exact grow
   ·have e8:((l.length:Int) == 9 - 1)=false:=by simp;omega
    simp only [e8,VV];subst hB
    (try dsimp only);refine Y1 fun A1 B1 hA hB=>?_
    by_cases z9:((y9 (bi ++ [l]):Nat):Int) + ((wtC c:Nat):Int) <= 24
    ·simp only [z9,VV];subst hA;left;simp only [ixL,st.lst.2.2,List.length_map,VV];refine ⟨by right,?_⟩;subst hN;simp only [VV];have w1:wtB (l ++ [c])=wtB l + wtC c:=by unfold wtB;rw [List.map_append,List.sum_append];simp
     have e0:y9 (bi ++ [l ++ [c]])=y9 (bi ++ [l]) + wtC c:=by rw [t1,t1,w1];omega
     refine hN1 _ _ ⟨bi,l ++ [c],ki,k,_,_,by rw [e0,show nD (y9 (bi ++ [l]) + wtC c) = .int (((y9 (bi ++ [l]):Nat):Int) + ((wtC c:Nat):Int)) from congrArg D.int (Int.natCast_add _ _)],st.app c,b5,fun b hb=>?_,by right⟩
     rcases List.mem_append.mp hb with z | z
     ·exact b8 b (List.mem_append_left _ z)
     ·rw [List.mem_singleton.mp z,List.length_append,List.length_singleton];omega
    ·simp only [z9,VV];subst hB;simp only [VV];exact hN1 _ _ ⟨bi,l,ki,k,_,_,rfl,st,b5,b8,t24⟩
 ·rintro δ h' ⟨bi,l,ki,k,x4,x5,rfl,st,b5,b8,t24⟩
  subst hN;simp only [VV];obtain ⟨g,eg⟩:=st.pre
  have vw:∀ (js:List Nat) (bs:List (List Int)),js.length=bs.length->(∀ (i x:Nat) (b:List Int),js[i]?=some x->bs[i]?=some b->h.length <= x/\h'[x]?=some (.lst (b.map D.int)))->Vws h.length h' (js.map D.ref) (bs.map boD):=by
   intro js
   induction js with
   |nil =>
    intro bs e _
    cases bs with
    |nil=>exact .nil
    |cons b r=>cases e
   |cons j js ih =>
    intro bs e k
    cases bs with
    |nil=>cases e
    |cons b bs =>
     obtain ⟨k1,k2⟩:=k 0 j b rfl rfl;exact .cons (.opn k1 k2 (.of (p7 (fun _=>rfl) b))) (ih bs (by simpa using e) fun i x b h1 h2=>k (i + 1) x b h1 h2)
  refine ⟨h,g,.lst ((bi ++ [l]).map boD),eg,rfl,fun _ _ e=>.inl e,.opn (by right) st.out (vw _ _ (by simp [st.len]) fun i x b h1 h2=>?_),q _ (by simp) (by simp;omega) b8 t24⟩
  rcases Nat.lt_or_ge i ki.length with z | z
  ·rw [List.getElem?_append_left z] at h1;rw [List.getElem?_append_left (by rw [<- st.len];exact z)] at h2;obtain ⟨p1,p2,p3⟩:=st.at_ i x b h1 h2;exact ⟨p1,p3⟩
  ·have zi:i=ki.length:=by
    have:=(List.getElem?_eq_some_iff.mp h1).1
    rw [List.length_append,List.length_singleton] at this;omega
   subst zi;rw [List.getElem?_append_right (Nat.le_refl _),Nat.sub_self] at h1;rw [st.len,List.getElem?_append_right (Nat.le_refl _),Nat.sub_self] at h2
   cases h1;cases h2;exact ⟨st.lst.1,st.lst.2.2⟩
theorem b8f{f:Addr}{fd:FuncData}(F:Fun K "_law_bodies" "_law_bodies" b3D f fd)(T:Txt P w K mg):t8 P w K mg base CX0 1 f fd ["_law_cells_here","_law_sizes"] (spD K 2 b0Y) :=
 B8 (k:=0) (b:=b4H) F sc_q0 (fun cdv A outer s H E hr=>by
  refine c7 ?_ ?_
  ·exact i9 (i:=2) sc_q0.nd rfl (Or.inl rfl) (J4 (j5 (a9 (J4 (j5 c6)) c6)))
  refine c7 ?_ ?_
  ·exact i9 (i:=3) sc_q0.nd rfl (Or.inl rfl) b7
  refine c7 ?_ (c8 (i6 (sv 2)));refine z4 PassesOwn.never rfl (o9 (sv 0)) (h6 (i:=4) sc_q0.nd rfl (Or.inl rfl)) ?_;refine c7 ?_ ?_
  ·refine i9 (i:=5) sc_q0.nd rfl (Or.inl rfl) ?_;exact d7 j0 b7 (o8 a1Z rfl T.b_int PyProof.Rows.boot_int (a9 (y4 (j6 hr.units) (d7 l5 (sv 4) b7) b7) c6))
  refine c8 ?_;refine m7 ?_ ?_ ?_
  ·exact F7 (S5 (g9 (j6 hr.units) (d7 l5 (sv 4) b7) b7) (M6 (g9 (j6 hr.units) (i7 m6 rfl T.b_len PySem.boot_len (a9 (d4 d3 (sv 2) (W8 M7 b7)) c6)) (d7 H9 (d4 d3 (sv 1) b7) b7))))
  ·refine c8 ?_;refine m7 ?_ ?_ i5
   ·exact F7 (u8 (g9 J5 (i7 m6 rfl T.b_len PySem.boot_len (a9 (sv 2) c6)) (d4 d3 (sv 1) b7)) (y7 (g9 J5 (sv 3) (d4 d3 (sv 1) b7))))
   refine c7 (s9 (n9 (sv 2) (a9 (J4 (j5 c6)) c6))) ?_;refine c8 ?_;exact i9 (i:=3) sc_q0.nd rfl (Or.inl rfl) (d7 j0 (sv 3) b7)
  refine c8 ?_;refine m7 ?_ ?_ i5
  ·exact g9 M3 (d7 j0 (sv 3) (sv 5)) (d4 d3 (sv 1) b7)
  refine c7 ?_ ?_
  ·refine s9 ?_;exact n9 (d4 d3 (sv 2) (W8 M7 b7)) (a9 (sv 4) c6)
  refine c8 ?_;exact i9 (i:=3) sc_q0.nd rfl (Or.inl rfl) (d7 j0 (sv 3) (sv 5))) b3I
def a5K:DS:=(d9 (j7 (dC (.str "abcdefghijklmnopqrstuvwxyz")) (d5 3))
  (d9 (j7 (dOp m3 (dC (.int 1)) (dOp u3 (b9 0) (dC (.int 8)))) (d5 4))
  (d9 (j7 (dOp u3 (dOp F4 (b9 0) (dC (.int 8))) (b9 4)) (d5 5))
  (d9 (j7 (dTk d2) (d5 6))
  (d9 (C9 (C3 (b0 (b9 1) d2)) (d5 7) (d9 (j7 (dC (.str "")) (d5 8))
  (d9 (m5 (dTr (b9 2)) (d9 (j7 (dOp m3 (dC (.int 1)) (dOp u3 (b9 0) (dC (.int 8)))) (d5 4))
  (j7 (dOp F4 (b9 0) (dC (.int 8))) (d5 0))) j2)
  (d9 (C9 (C3 (b0 (b9 4) d2)) (d5 9) (d9 (j7 (b9 0) (d5 10))
  (d9 (m5 (dTr (b9 2)) (j7 (dOp F4 (b9 0) (dC (.int 26))) (d5 0)) (j7 (dOp m3 (dOp m3 (dOp F4 (b9 0) (dOp m3 (dC (.int 64)) (dOp E3 (dOp E3 (dC (.int 27)) (b9 9)) (b9 9)))) (dOp E3 (dC (.int 5)) (b9 9))) (dOp E3 (b9 7) (dCB a6k (b0 (dOp (pEq false) (b9 9) (b9 5)) d2)))) (d5 10)))
  (j7 (dOp a1w (b9 8) (dOp pIx (b9 3) (dOp u3 (b9 10) (dC (.int 26))))) (d5 8)))))
  (v8 (q8 (b9 6) (b0 (b9 8) d2)))))))
  (j8 (b9 6)))))))
def gdL(l:List Nat):Prop:=1 <= l.length/\l.length <= 8/\∀ i ∈ l,i < 26
def lD(l:List Nat):D:=.str (lw l)
def a3H:DSp:=fun ds h Q=>∃ (c:Int) (m:Nat) (b:Bool),ds=[.int c,.int m,.bl b]/\m <= 10/\∀ ss:List (List Nat),ss.length=m->(∀ l ∈ ss,gdL l)->Q (.lst (ss.map lD)) h
theorem a9C:∀ ds h Q,a3H ds h Q->m4 11 a5K ds h (Dr h Q):=by
 rintro ds h Q ⟨c,m,b,rfl,hm,q⟩
 delta m4 a5K;simp only [VS];left;simp only [VV];subst hN;left;simp only [VV];refine ⟨by decide,?_⟩;obtain ⟨s0,hs0,es0⟩:=mdN c 8 (by decide);have es0:1 + c % 8=((1 + s0:Nat):Int):=by rw [Int.natCast_add];exact congrArg (1 + ·) es0
 rw [es0];have s8:1 + s0 <= 8:=by right
 have s1:1 <= 1 + s0:=by right
 generalize 1 + s0=sz at s8 s1;subst hN;left;simp only [VV];refine ⟨⟨by decide,by decide⟩,by right,?_⟩;generalize c / 8 % (sz:Int)=at_;subst hN;left;simp only [VV];subst hN;left;simp only [VV];refine ⟨⟨by right,by right⟩,?_⟩;rw [u7,Int.toNat_natCast];refine n6 (fun p δ h'=>∃ (c:Int) (sz:Nat) (ss:List (List Nat)) (x7 x8 x9 x10:Option D),δ=[some (.int c),some (.int m),some (.bl b),some (.str abc),some (.int sz),some (.int at_),some (.ref h.length),x7,x8,x9,x10]/\h'=h ++ [.lst (ss.map lD)]/\1 <= sz/\sz <= 8/\ss.length=p.length/\∀ l ∈ ss,gdL l) ⟨c,sz,[],none,none,none,none,rfl,rfl,s1,s8,rfl,fun l hl=>nomatch hl⟩ (fun _ _ _ _=>Src.ok_nil) ?_ ?_
 ·rintro p j r δ h' N1 e ⟨c,sz,ss,x7,x8,x9,x10,rfl,rfl,s1,s8,sl,sg⟩ hN1
  obtain ⟨jp,jm⟩:=y6 e;simp only [VV];left;simp only [VV];rw [b5q];subst hN;left
  have rest:∀ (c:Int) (sz:Nat) (x9 x10:Option D),1 <= sz->sz <= 8->N [some (.int c),some (.int m),some (.bl b),some (.str abc),some (.int sz),some (.int at_),some (.ref h.length),some (.int (0 + (j:Int))),some (.str (lw [])),x9,x10] (h ++ [.lst (ss.map lD)]):=by
   intro c sz x9 x10 s1 s8;subst hN;left;simp only [VV];refine ⟨⟨by right,by right⟩,?_⟩;rw [u7,Int.toNat_natCast];refine n6 (fun p' δ h'=>h'=h ++ [.lst (ss.map lD)]/\∃ (c:Int) (l:List Nat) (x9 x10:Option D),δ=[some (.int c),some (.int m),some (.bl b),some (.str abc),some (.int sz),some (.int at_),some (.ref h.length),some (.int (0 + (j:Int))),some (.str (lw l)),x9,x10]/\l.length=p'.length/\∀ i ∈ l,i < 26) ⟨rfl,c,[],x9,x10,rfl,rfl,fun i hi=>nomatch hi⟩ (fun _ _ _ _=>Src.ok_nil) ?_ ?_
   ·rintro p' k r' δ h' N2 e' ⟨rfl,c,l,x9,x10,rfl,ll,lg⟩ hN2
    obtain ⟨kp,km⟩:=y6 e';simp only [VV];left;simp only [VV];subst hN;left
    have fin:∀ (c pl:Int),N [some (.int c),some (.int m),some (.bl b),some (.str abc),some (.int sz),some (.int at_),some (.ref h.length),some (.int (0 + (j:Int))),some (.str (lw l)),some (.int (0 + (k:Int))),some (.int pl)] (h ++ [.lst (ss.map lD)]):=by
     intro c pl;subst hN;obtain ⟨t,ht,et⟩:=mdN pl 26 (by decide);have et:pl % 26=(t:Int):=et;have ia:∀ hx,ixD hx (.str abc) (.int (t:Int))=some (.str (lw [t])):=fun hx=>a5Q ht;simp only [VV];refine ⟨by decide,?_⟩;rw [et,ia];dsimp only;rw [a7u];refine ⟨by rw [G4,G4,List.length_singleton];omega,hN2 _ _ ⟨rfl,c,l ++ [t],_,_,rfl,by simp [ll],fun i hi=>?_⟩⟩
     rcases List.mem_append.mp hi with z | z
     ·exact lg i z
     ·rw [List.mem_singleton.mp z];exact ht
    cases b with
    |true =>
     simp only [VV];exact ⟨⟨by decide,by decide⟩,fin _ _⟩
    |false =>
     simp only [VV];simp only [Int.zero_add] at fin ⊢;have k8:k < 8:=by right
     have kk:27 * (k:Int) * (k:Int)=((27 * k * k:Nat):Int):=by rw [Int.natCast_mul,Int.natCast_mul];rfl
     have kb:27 * k * k <= 27 * 8 * 8:=Nat.mul_le_mul (Nat.mul_le_mul_left _ (by right)) (by right);have ki:(if ((k:Int) == at_)=true then (1:Int) else 0)=1\/(if ((k:Int) == at_)=true then (1:Int) else 0)=0:=by split;exact .inl rfl;exact .inr rfl
     refine ⟨Q1 (by right),Q1 (by right),⟨by rw [kk];omega,by rw [kk];omega⟩,Q1 (by right),?_,fin _ _⟩
     rcases ki with z | z <;> rw [z]
     ·exact Q1 (by right)
     ·exact Q1 (by right)
   ·rintro δ h' ⟨rfl,c,l,x9,x10,rfl,ll,lg⟩
    rw [List.length_range] at ll;subst hN;simp only [o5,p8,List.length_map,VV];refine ⟨by right,hN1 _ _ ⟨c,sz,ss ++ [l],_,_,_,_,rfl,by rw [List.map_append];rfl,s1,s8,by simp [sl],fun l' hl'=>?_⟩⟩
    rcases List.mem_append.mp hl' with z | z
    ·exact sg l' z
    ·rw [List.mem_singleton.mp z];exact ⟨by right,by right,lg⟩
  cases b with
  |true =>
   simp only [VV]
   (try dsimp only);refine L0 fun N2 hN2=>?_;simp only [VV];refine ⟨by decide,?_⟩;obtain ⟨s2,hs2,es2⟩:=mdN c 8 (by decide);have es2:1 + c % 8=((1 + s2:Nat):Int):=by rw [Int.natCast_add];exact congrArg (1 + ·) es2
   rw [es2];subst hN2;simp only [VV];exact ⟨⟨by decide,by decide⟩,rest _ _ _ _ (by right) (by right)⟩
  |false =>
   simp only [VV];exact rest _ _ _ _ s1 s8
 ·rintro δ h' ⟨c,sz,ss,x7,x8,x9,x10,rfl,rfl,s1,s8,sl,sg⟩
  rw [List.length_range] at sl;subst hN;simp only [VV]
  have:=Dr.dropL (h:=h) (Q:=Q) (xs:=ss.map lD) (g1:=[]) (g2:=[]) (k:=h.length) (p7 (fun _=>rfl) ss) (by simp) (q ss sl sg)
  simpa using this
theorem b4n{f:Addr}{fd:FuncData}(F:Fun K "_law_spelt" "_law_spelt" a6f f fd)(T:Txt P w K mg):t8 P w K mg base CX0 1 f fd ["_law_cell","_law_many","_law_free"] (spD K 3 a3H) :=
 B8 (k:=0) (b:=a5K) F sc_q12 (fun cdv A outer s H E hr=>by
  refine c7 ?_ ?_
  ·exact i9 (i:=3) sc_q12.nd rfl (Or.inl rfl) d6
  refine c7 ?_ ?_
  ·exact i9 (i:=4) sc_q12.nd rfl (Or.inl rfl) (d7 j0 b7 (d7 l5 (sv 0) b7))
  refine c7 ?_ ?_
  ·exact i9 (i:=5) sc_q12.nd rfl (Or.inl rfl) (d7 l5 (d7 u6 (sv 0) b7) (sv 4))
  refine c7 ?_ ?_
  ·exact i9 (i:=6) sc_q12.nd rfl (Or.inl rfl) (J4 (j5 c6))
  refine c7 ?_ (c8 (i6 (sv 6)));refine z4 PassesOwn.never rfl (C5 rfl T.b_range (a9 (sv 1) c6)) (h6 (i:=7) sc_q12.nd rfl (Or.inl rfl)) ?_;refine c7 ?_ ?_
  ·exact i9 (i:=8) sc_q12.nd rfl (Or.inl rfl) d6
  refine c7 ?_ ?_
  ·refine m7 (o0 (sv 2)) ?_ i5;refine c7 ?_ ?_
   ·exact i9 (i:=4) sc_q12.nd rfl (Or.inl rfl) (d7 j0 b7 (d7 l5 (sv 0) b7))
   refine c8 ?_;exact i9 (i:=0) sc_q12.nd rfl (Or.inl rfl) (d7 u6 (sv 0) b7)
  refine c7 ?_ (c8 (s9 (n9 (sv 6) (a9 (sv 8) c6))));refine z4 PassesOwn.never rfl (C5 rfl T.b_range (a9 (sv 4) c6)) (h6 (i:=9) sc_q12.nd rfl (Or.inl rfl)) ?_;refine c7 ?_ ?_
  ·exact i9 (i:=10) sc_q12.nd rfl (Or.inl rfl) (sv 0)
  refine c7 ?_ ?_
  ·refine m7 (o0 (sv 2)) ?_ ?_
   ·refine c8 ?_;exact i9 (i:=0) sc_q12.nd rfl (Or.inl rfl) (d7 u6 (sv 0) b7)
   refine c8 ?_;refine i9 (i:=10) sc_q12.nd rfl (Or.inl rfl) ?_;exact d7 j0 (d7 j0 (d7 u6 (sv 0) (d7 j0 b7 (d7 t7 (d7 t7 b7 (sv 9)) (sv 9)))) (d7 t7 b7 (sv 9))) (d7 t7 (sv 7) (o8 a1Z rfl T.b_int PyProof.Rows.boot_int (a9 (y4 (j6 hr.units) (sv 9) (sv 5)) c6)))
  refine c8 ?_;exact i9 (i:=8) sc_q12.nd rfl (Or.inl rfl) (d7 a0X (sv 8) (d4 d3 (sv 3) (d7 l5 (sv 10) b7)))) a9C
def b4u:DS:=(d9 (j7 (dC (.str "abcdefghijklmnopqrstuvwxyz")) (d5 3))
  (d9 (j7 (dV (a4a ["function","call","dye","wash","if","to","return","back","here"])) (d5 4))
  (d9 (j7 (dTk d2) (d5 5))
  (d9 (C9 (t9 (n8 a3H (b0 (b9 0) (b0 (b9 1) (b0 (b9 2) d2))))) (d5 6) (d9 (a2c (j9 (dOp (pIn false) (b9 6) (dOp m3 (b9 5) (b9 4)))) (d9 (j7 (a3Q (b9 3) (b0 (dOp pIx (b9 6) (dOp T6 (dCB v9 (b0 (b9 6) d2)) (dC (.int 1)))) d2)) (d5 7))
  (j7 (dOp a1w (b8g (b9 6) u9 (D2 (dOp T6 (dCB v9 (b0 (b9 6) d2)) (dC (.int 1))))) (dOp pIx (b9 3) (dOp u3 (dOp m3 (b9 7) (dC (.int 1))) (dC (.int 26))))) (d5 6))))
  (v8 (q8 (b9 5) (b0 (b9 6) d2)))))
  (j8 (b9 5))))))
theorem b1u(s:Str)(l:List Str):inF (.str s) (l.map D.str)=l.contains s:=by
 induction l with
 |nil=>rfl
 |cons a r ih =>
  rw [List.contains_cons,<- ih];unfold inF;rw [List.map_cons,List.any_cons]
  congr 1
  show (a == s)=(s == a)
  by_cases c:s=a
  ·subst c;rfl
  ·rw [beq_eq_false_iff_ne.mpr c,beq_eq_false_iff_ne.mpr (Ne.symm c)]
theorem a0e(l:List Str):(l.map D.str).all T2=true:=by
 rw [List.all_map];simp [T2,List.all_eq_true]
abbrev tkn:List Str:=kept
theorem c0P(l:List Nat):cl (lw l)=l.map fun i=>97 + i:=rfl
theorem a9S{l:List Nat}(h:gdL l)(hk:lw l ∉ kept):isN (lw l)=true:=by
 unfold isN;rw [Bool.and_eq_true,Bool.and_eq_true,Bool.and_eq_true,decide_eq_true_iff,decide_eq_true_iff,G4,List.all_eq_true,Bool.not_eq_true',List.any_eq_false];refine ⟨⟨h.1,h.2.1⟩,fun y hy z=>hk (by rw [<- eq_of_beq z];exact hy),fun c hc=>?_⟩;have hc:c ∈ l.map fun i=>97 + i:=hc;obtain ⟨i,hi,rfl⟩:=List.mem_map.mp hc
 have:=h.2.2 i hi
 unfold isL;rw [decide_eq_true (by right),decide_eq_true (by right)];rfl
def a7B:DSp:=fun ds h Q=>∃ (c:Int) (m:Nat) (b:Bool),ds=[.int c,.int m,.bl b]/\m <= 10/\∀ ss:List Str,ss.length=m->NG ss->ss.Nodup->Q (.ref h.length) (h ++ [.lst (ss.map .str)])
theorem b5J:∀ ds h Q,a7B ds h Q->m4 8 b4u ds h Q:=by
 rintro ds h Q ⟨c,m,b,rfl,hm,q⟩
 delta m4 b4u;simp only [VS];left;simp only [VV];subst hN;left;simp only [VV];subst hN;left;simp only [VV];subst hN;left;simp only [VV];refine ⟨c,m,b,rfl,hm,fun ss sl sg=>?_⟩;simp only [VV];refine n6 (fun p δ h'=>∃ (ns:List Str) (x6 x7:Option D),δ=[some (.int c),some (.int m),some (.bl b),some (.str abc),some (.lst (tkn.map .str)),some (.ref h.length),x6,x7]/\h'=h ++ [.lst (ns.map .str)]/\ns.length=p.length/\NG ns/\ns.Nodup) ⟨[],none,none,rfl,rfl,rfl,(fun s hs=>nomatch hs),List.nodup_nil⟩ (fun _ _ _ _=>Src.ok_nil) ?_ ?_
 ·rintro p l0 r δ h' N1 e ⟨ns,x6,x7,rfl,rfl,nl,nok,nnd⟩ hN1
  obtain ⟨g1,g2,g3⟩:=sg l0 (by rw [e];simp);have pl:p.length < ss.length:=by rw [e];simp
  simp only [VV];left;obtain ⟨base,c0,rfl⟩:∃ base c0,l0=base ++ [c0]:=⟨l0.dropLast,l0.getLast (by intro z;rw [z] at g1;cases g1),(List.dropLast_concat_getLast _).symm⟩
  have bl:base.length <= 7:=by rw [List.length_append,List.length_singleton] at g2;omega
  have c26:c0 < 26:=g3 c0 (by simp)
  obtain ⟨t,ht,nt⟩:=b6D (ns ++ tkn) 26 (fun i=>lw (base ++ [(c0 + i) % 26])) (by rw [List.length_append,show tkn.length=9 from rfl];omega) (fun i j hi hj ee=>by
   have:=List.append_cancel_left (b4r ee)
   have:(c0 + i) % 26=(c0 + j) % 26:=by simpa using this
   omega)
  refine b0Z (fun m_ δ h'=>h'=h ++ [.lst (ns.map .str)]/\∃ (c1:Nat) (x7:Option D),δ=[some (.int c),some (.int m),some (.bl b),some (.str abc),some (.lst (tkn.map .str)),some (.ref h.length),some (.str (lw (base ++ [c1]))),x7]/\c1 < 26/\lw (base ++ [(c1 + m_) % 26]) ∉ ns ++ tkn) (m:=t) ⟨rfl,c0,x7,rfl,c26,nt⟩ ?_
  rintro m_ δ h' N2 ⟨rfl,c1,x7,rfl,c1l,nt⟩ hN2
  have lp:lsP (h ++ [O.lst (ns.map D.str)]) (.ref h.length)=some (ns.map D.str):=G3 _ _;simp only [lp,VV];rw [<- List.map_append,b1u,a0e];refine ⟨by rw [List.length_map,List.length_map,show tkn.length=9 from rfl];omega,rfl,?_⟩
  cases z:(ns ++ tkn).contains (lw (base ++ [c1])) with
  |false =>
   rw [if_neg Bool.false_ne_true]
   have nz:lw (base ++ [c1]) ∉ ns ++ tkn:=fun y=>by
    have:=List.contains_iff_mem.mpr y
    rw [z] at this;cases this
   subst hN;simp only [o5,p8,List.length_map,VV];refine ⟨by right,hN1 _ _ ⟨ns ++ [lw (base ++ [c1])],_,_,rfl,by rw [List.map_append];rfl,by simp [nl],fun s hs=>?_,?_⟩⟩
   ·rcases List.mem_append.mp hs with z | z
    ·exact nok s z
    ·rw [List.mem_singleton.mp z];refine a9S ⟨by simp,by rw [List.length_append,List.length_singleton];omega,fun i hi=>?_⟩ (fun y=>nz (List.mem_append_right _ y))
     rcases List.mem_append.mp hi with y | y
     ·exact g3 i (List.mem_append_left _ y)
     ·rw [List.mem_singleton.mp y];exact c1l
   ·rw [List.nodup_append];refine ⟨nnd,List.nodup_cons.mpr ⟨List.not_mem_nil,List.nodup_nil⟩,fun a ha b hb=>?_⟩;rw [List.mem_singleton.mp hb];exact fun y=>nz (List.mem_append_left _ (by rw [<- y];exact ha))
  |true =>
   rw [if_pos rfl]
   have m0:m_ ≠ 0:=fun q=>by
    subst q;rw [Nat.add_zero,Nat.mod_eq_of_lt c1l] at nt;exact nt (by simpa using z)
   have ln:∀ hx,T7 hx (.str (lw (base ++ [c1])))=some (base.length + 1):=fun hx=>by
    show (if (lw (base ++ [c1])).length <= 16777216 then some (lw (base ++ [c1])).length else none)=_;rw [G4,List.length_append,if_pos (by rw [List.length_singleton];omega)];rfl
   have e1:(((base.length + 1:Nat):Int) - 1)=(base.length:Int):=by right
   have ia:∀ hx,ixD hx (.str (lw (base ++ [c1]))) (.int (base.length:Int))=some (.str (lw [c1])):=fun hx=>b8t base c1 (by right);have ib:∀ hx,ixD hx (.str abc) (.int (((c1 + 1) % 26:Nat):Int))=some (.str (lw [(c1 + 1) % 26])):=fun hx=>a5Q (Nat.mod_lt _ (by decide));have e2:((c1:Int) + 1) % 26=(((c1 + 1) % 26:Nat):Int):=by right
   refine L0 fun N3 hN3=>?_;simp only [ln,e1,ia,VV];refine ⟨c1,[],b4t c1 c1l,?_⟩;subst hN3;simp only [ln,e1,b8c,e2,ib,a7u,VV];refine ⟨by rw [G4];omega,by decide,by rw [G4,G4,List.length_singleton];omega,hN2 (m_ - 1) _ _ (by right) ⟨rfl,_,_,rfl,Nat.mod_lt _ (by decide),?_⟩⟩;rw [show ((c1 + 1) % 26 + (m_ - 1)) % 26=(c1 + m_) % 26 by right];exact nt
 ·rintro δ h' ⟨ns,x6,x7,rfl,rfl,nl,nok,nnd⟩
  subst hN;simp only [VV];exact q ns (by right) nok nnd
theorem b7q{f:Addr}{fd:FuncData}(F:Fun K "_law_names" "_law_names" b3y f fd)(T:Txt P w K mg)(C_q12:Cal P w K mg base 1 "_law_spelt" ["_law_cell","_law_many","_law_free"] (spD K 3 a3H)):t8 P w K mg base CX0 2 f fd ["_law_cell","_law_many","_law_free"] (spD K 3 a7B) :=
 x0 (k:=1) (b:=b4u) F sc_q8 (fun cdv A outer s H E hr=>by
  refine c7 ?_ ?_
  ·exact i9 (i:=3) sc_q8.nd rfl (Or.inl rfl) d6
  refine c7 ?_ ?_
  ·refine i9 (i:=4) sc_q8.nd rfl (Or.inl rfl) ?_;exact p4 (b0k ["function","call","dye","wash","if","to","return","back","here"])
  refine c7 ?_ ?_
  ·exact i9 (i:=5) sc_q8.nd rfl (Or.inl rfl) (J4 (j5 c6))
  refine c7 ?_ (c8 (i6 (sv 5)));refine z4 PassesOwn.never rfl ?_ (h6 (i:=6) sc_q8.nd rfl (Or.inl rfl)) ?_
  ·exact o9 (h7 C_q12 (hr.mono (by decide)) rfl (a9 (sv 0) (a9 (sv 1) (a9 (sv 2) c6))))
  refine c7 ?_ (c8 (s9 (n9 (sv 5) (a9 (sv 6) c6))));refine b0G PassesOwn.never (g9 a6M (sv 6) (d7 j0 (sv 5) (sv 4)) rfl) ?_;refine c7 ?_ ?_
  ·refine i9 (i:=7) sc_q8.nd rfl (Or.inl rfl) ?_;exact a4J (sv 3) (a9 (d4 d3 (sv 6) (d7 H9 (i7 m6 rfl T.b_len PySem.boot_len (a9 (sv 6) c6)) b7)) c6)
  refine c8 ?_;refine i9 (i:=6) sc_q8.nd rfl (Or.inl rfl) ?_;exact d7 a0X (b4Q (sv 6) y0 (w9 (d7 H9 (i7 m6 rfl T.b_len PySem.boot_len (a9 (sv 6) c6)) b7))) (d4 d3 (sv 3) (d7 l5 (d7 j0 (sv 7) b7) b7))) b5J
def b5W:DS:=(d9 (j7 (dOp (pEq false) (dOp u3 (n8 Q6 (b0 (b9 0) (b0 (dC (.int 7)) d2))) (dC (.int 2))) (dC (.int 1))) (d5 4))
  (d9 (j7 (dOp pIx (b9 3) (dC (.int 3))) (d5 5))
  (d9 (j7 (n8 b0Y (b0 (n8 b1S (b0 (b9 0) (b0 (dC (.int 9)) (b0 (dC (.int 54)) d2)))) (b0 (b9 3) d2))) (d5 6))
  (d9 (j7 (dV (u5 [none,some 0] (C3 (b0 (dCB v9 (b0 (b9 6) d2)) d2)) (d5 0) y8 (n8 Q6 (b0 (b9 1) (b0 (b9 0) d2))))) (d5 7))
  (d9 (j7 (dV (u5 [none,some 5] (t9 (b9 7)) (d5 0) y8 (dOp u3 (b9 0) (dOp m3 (b9 1) (dC (.int 1)))))) (d5 8))
  (d9 (j7 (dTk d2) (d5 9))
  (d9 (C9 (Q2 (b0 (b9 6) d2)) (V0 2 (p6 (d5 10) (p6 (d5 11) K5))) (d9 (j7 (dTk (u5 [none,some 8,some 11,some 5,some 4] (t9 (b9 11)) (d5 0) y8 (n8 a9X (b0 (b9 0) (b0 (b9 1) (b0 (dOp m3 (dCB v9 (b0 (b9 2) d2)) (dC (.int 1))) (b0 (b9 3) (b0 (b9 4) d2)))))))) (d5 12))
  (d9 (j7 (dOp F4 (dOp pIx (b9 7) (b9 10)) (dOp m3 (b9 5) (dC (.int 1)))) (d5 13))
  (d9 (v8 (q8 (b9 12) (b0 (dOp pIx (dV (b0 (A0 (b0 (dC (.str "to")) (b0 (dOp u3 (dOp F4 (b9 13) (dC (.int 3))) (dOp m3 (dCB v9 (b0 (b9 11) d2)) (dC (.int 1)))) d2))) (b0 (A0 (b0 (dC (.str "return")) (b0 (dOp u3 (dOp F4 (b9 13) (dC (.int 3))) (b9 5)) d2))) d2))) (dCB a9I (b0 (dC (.int 1)) (b0 (dOp u3 (b9 13) (dC (.int 3))) d2)))) d2)))
  (d9 (j7 (dTk (a0o (b0 (dOp pIx (b9 8) (b9 10)) d2))) (d5 14))
  (d9 (C9 (t9 (b9 12)) (d5 15) (C9 (t9 (n8 b0u (b0 (b9 15) d2))) (d5 16) (m5 (j9 (dOp (pIn true) (b9 16) (b9 14))) (v8 (q8 (b9 14) (b0 (b9 16) d2))) j2)))
  (d9 (j7 (dCB G7 (b0 (dV (u5 [none,some 2] (t9 (b9 14)) (d5 0) y8 (dOp pIx (b9 1) (b9 0)))) d2)) (d5 17))
  (v8 (q8 (b9 9) (b0 (A0 (b0 (dOp pIx (b9 1) (b9 10)) (b0 (dOp pIx (b9 8) (b9 10)) (b0 (b9 17) (b0 (dCB G7 (b0 (dV (u5 [none,some 14] (t9 (b9 12)) (d5 0) y8 (n8 a3u (b0 (b9 0) (b0 (b9 1) d2))))) d2)) d2))))) d2))))))))))
  (j8 (b9 9)))))))))
theorem a2x:∀ (n:Nat) (l:List Nat),l.Nodup->(∀ x ∈ l,x < n)->l.length <= n:=by
 intro n
 induction n with
 |zero =>
  intro l _ h
  cases l with
  |nil=>exact Nat.le_refl _
  |cons a r=>exact absurd (h a (by simp)) (Nat.not_lt_zero _)
 |succ n ih =>
  intro l nd h
  have h1:=ih (l.filter (fun x=>x != n)) (nd.sublist List.filter_sublist) (fun x hx=>by
   obtain ⟨a,b⟩:=List.mem_filter.mp hx
   have:=h x a
   have:x ≠ n:=by simpa using b
   omega)
  have h2:∀ l:List Nat,l.Nodup->l.length <= (l.filter (fun x=>x != n)).length + 1:=by
   intro l
   induction l with
   |nil=>intro _;exact Nat.zero_le _
   |cons a r ih2 =>
    intro nd;obtain ⟨n1,n2⟩:=List.nodup_cons.mp nd
    by_cases z:a=n
    ·subst z
     have:r.filter (fun x=>x != a)=r:=List.filter_eq_self.mpr fun x hx=>by
      have:x ≠ a:=fun q=>n1 (q ▸ hx)
      simpa using this
     rw [List.filter_cons_of_neg (by simp),this,List.length_cons];omega
    ·have:=ih2 n2
     rw [List.filter_cons_of_pos (by simpa using z),List.length_cons,List.length_cons];omega
  have:=h2 l nd
  omega
def ext:List Nat->List Nat->List Nat
 |o,[]=>o
 |o,x :: xs=>ext (if x ∈ o then o else o ++ [x]) xs
theorem V9:∀ (xs o:List Nat) (x:Nat),ext o (xs ++ [x])=if x ∈ ext o xs then ext o xs else ext o xs ++ [x]
 |[],o,x=>rfl
 |y :: xs,o,x=>V9 xs _ x
theorem a3I:∀ (xs o:List Nat),∃ s,ext o xs=o ++ s
 |[],o=>⟨[],(List.append_nil o).symm⟩
 |x :: xs,o=>by
  obtain ⟨s,hs⟩:=a3I xs (if x ∈ o then o else o ++ [x]);show ∃ s,ext (if x ∈ o then o else o ++ [x]) xs=o ++ s;rw [hs]
  by_cases z:x ∈ o
  ·rw [if_pos z];exact ⟨s,rfl⟩
  ·rw [if_neg z,List.append_assoc];exact ⟨[x] ++ s,rfl⟩
theorem a3z:∀ (xs o:List Nat),G0 o.length (xs.map (ext o xs).idxOf)/\grow o.length (xs.map (ext o xs).idxOf)=(ext o xs).length
 |[],o=>⟨trivial,rfl⟩
 |x :: xs,o=>by
  have ih:=a3z xs (if x ∈ o then o else o ++ [x]);have ee:ext o (x :: xs)=ext (if x ∈ o then o else o ++ [x]) xs:=rfl;obtain ⟨s,hs⟩:=a3I xs (if x ∈ o then o else o ++ [x]);rw [<- ee] at ih hs;generalize ext o (x :: xs)=E at ih hs;show (E.idxOf x <= o.length/\G0 (if E.idxOf x < o.length then o.length else o.length + 1) (xs.map E.idxOf))/\grow (if E.idxOf x < o.length then o.length else o.length + 1) (xs.map E.idxOf)=E.length
  by_cases z:x ∈ o
  ·rw [if_pos z] at ih hs;have l:E.idxOf x < o.length:=by rw [hs,List.idxOf_append,if_pos z];exact List.idxOf_lt_length_of_mem z
   rw [if_pos l];exact ⟨⟨by right,ih.1⟩,ih.2⟩
  ·rw [if_neg z] at ih hs;have l:E.idxOf x=o.length:=by rw [hs,List.append_assoc,List.idxOf_append,if_neg z];simp
   rw [l,if_neg (Nat.lt_irrefl _)];rw [List.length_append,List.length_singleton] at ih;exact ⟨⟨Nat.le_refl _,ih.1⟩,ih.2⟩
theorem a7h(o:List Nat)(r:Rw):d8 (O1 o r)=(d8 r).map o.idxOf:=by cases r <;> rfl
theorem a1q(o:List Nat):∀ R:List Rw,(R.map (O1 o)).flatMap d8=(R.flatMap d8).map o.idxOf
 |[]=>rfl
 |r :: R=>by rw [List.map_cons,List.flatMap_cons,List.flatMap_cons,List.map_append,a7h,a1q o R]
def a3o(rs:List Rw):Prop:=∃ (i:List Rw) (r:Rw),rs=i ++ [r]/\((∃ q,r = .to q)\/∃ x,r = .ret x)
theorem a7j{o:List Nat}{R:List Rw}(h:a3o R):a3o (R.map (O1 o)):=by
 obtain ⟨i,r,rfl,z⟩:=h;refine ⟨i.map (O1 o),O1 o r,by rw [List.map_append];rfl,?_⟩
 rcases z with ⟨q,rfl⟩ | ⟨x,rfl⟩
 ·exact .inl ⟨q,rfl⟩
 ·exact .inr ⟨_,rfl⟩
def b7P(nm:List Str)(F:Fu):Prop:=∃ o:List Nat,o.Nodup/\(∀ x ∈ o,x < nm.length)/\F.vars=o.map fun i=>nm.getD i ""
def b8X(gv:List Nat)(ws nm:List Str)(i:Nat)(b:List Int)(k:Nat)(F:Fu):Prop :=
 ws[i]?=some F.name/\b7P nm F/\F.given=k/\k <= F.vars.length/\F.rows.length=b.length + 1/\(∀ r ∈ F.rows,a0J F.vars.length (b.length + 1) gv r)/\(F.rows.map wtR).sum <= 1 + wtB b/\G0 k (F.rows.flatMap d8)/\grow k (F.rows.flatMap d8)=F.vars.length/\a3o F.rows
theorem b1m{P:List Fu}{gv:List Nat}{bs:List (List Int)}{ws nm:List Str}(l1:P.length=bs.length)(l2:gv.length=bs.length)(b1:1 <= bs.length)(b6:bs.length <= 6)(b8:∀ b ∈ bs,b.length <= 8)(t:y9 bs <= 24)(n4:nm.length <= 4)
  (gw:NG ws) (ndw:ws.Nodup) (gn:NG nm) (ndn:nm.Nodup) (h:∀ (i:Nat) (b:List Int) (k:Nat) (F:Fu),bs[i]?=some b->gv[i]?=some k->P[i]?=some F->b8X gv ws nm i b k F):PrG P:=by
 have get:∀ F ∈ P,∃ i b k,bs[i]?=some b/\gv[i]?=some k/\P[i]?=some F:=fun F hF=>by
  obtain ⟨i,hi⟩:=List.mem_iff_getElem?.mp hF;have il:=(List.getElem?_eq_some_iff.mp hi).1;exact ⟨i,_,_,List.getElem?_eq_getElem (by right),List.getElem?_eq_getElem (by right),hi⟩
 have at_:∀ (i:Nat) (F:Fu),P[i]?=some F->∃ b k,bs[i]?=some b/\gv[i]?=some k:=fun i F hi=>by
  have il:=(List.getElem?_eq_some_iff.mp hi).1;exact ⟨_,_,List.getElem?_eq_getElem (by right),List.getElem?_eq_getElem (by right)⟩
 have eg:P.map (·.given)=gv:=by
  apply List.ext_getElem?
  intro i;rw [List.getElem?_map]
  cases e:P[i]? with
  |none =>
   have:=List.getElem?_eq_none_iff.mp e
   exact (List.getElem?_eq_none_iff.mpr (by right)).symm
  |some F =>
   obtain ⟨b,k,h1,h2⟩:=at_ i F e;rw [h2];exact congrArg some (h i b k F h1 h2 e).2.2.1
 have ew:P.map (·.name)=ws.take P.length:=by
  apply List.ext_getElem?
  intro i;rw [List.getElem?_map]
  cases e:P[i]? with
  |none =>
   have:=List.getElem?_eq_none_iff.mp e
   exact (List.getElem?_eq_none_iff.mpr (by rw [List.length_take];omega)).symm
  |some F =>
   obtain ⟨b,k,h1,h2⟩:=at_ i F e;rw [List.getElem?_take_of_lt (List.getElem?_eq_some_iff.mp e).1];exact (h i b k F h1 h2 e).1.symm
 have sm:∀ (fs:List Fu) (cs:List (List Int)),fs.length=cs.length->(∀ (i:Nat) (b:List Int) (F:Fu),cs[i]?=some b->fs[i]?=some F->(F.rows.map wtR).sum <= 1 + wtB b)->(fs.map fun F=>(F.rows.map wtR).sum).sum <= y9 cs:=by
  intro fs
  induction fs with
  |nil=>intro cs _ _;exact Nat.zero_le _
  |cons F fs ih =>
   intro cs e k
   cases cs with
   |nil=>cases e
   |cons c cs =>
    have h1:=k 0 c F rfl rfl;have h2:=ih cs (by simpa using e) fun i b F h1 h2=>k (i + 1) b F h1 h2
    have:y9 (c :: cs)=(1 + wtB c) + y9 cs:=rfl
    rw [List.map_cons,List.sum_cons,this];omega
 refine { l6:=by right,nd:=by rw [ew];exact ndw.sublist (List.take_sublist _ _),ok:=fun F hF=>?_,w24:=?_ }
 ·obtain ⟨i,b,k,h1,h2,h3⟩:=get F hF;obtain ⟨f1,⟨o,ond,olt,ev⟩,f3,f4,f5,f6,f7,f8,f9,f10⟩:=h i b k F h1 h2 h3;have b8':=b8 b (List.mem_of_getElem? h1);have vl:F.vars.length=o.length:=by rw [ev,List.length_map]
  have o4:=Nat.le_trans (a2x _ o ond olt) n4;have gd:∀ x ∈ o,nm.getD x "" ∈ nm:=fun x hx=>F1 (olt x hx);refine { nm:=gw _ (List.mem_of_getElem? f1),vs:=fun v hv=>?_,nd:=?_,v4:=by right,gn:=by right,rl:=by right,ok:=fun r hr=>?_,ord:=by rw [f3];exact f8,all:=by rw [f3];exact f9,last:=f10 }
  ·rw [ev] at hv;obtain ⟨x,hx,rfl⟩:=List.mem_map.mp hv;exact gn _ (gd x hx)
  ·rw [ev];refine List.pairwise_map.mpr (List.Pairwise.imp_of_mem (fun {a b} ha hb ab e=>ab ?_) ond);have e1:nm[a]?=some (nm.getD a ""):=by rw [List.getD_eq_getElem?_getD,List.getElem?_eq_getElem (olt a ha)];rfl
   have e2:nm[b]?=some (nm.getD b ""):=by rw [List.getD_eq_getElem?_getD,List.getElem?_eq_getElem (olt b hb)];rfl
   obtain ⟨a1,b1⟩:=List.getElem?_eq_some_iff.mp e1;obtain ⟨a2,b2⟩:=List.getElem?_eq_some_iff.mp e2;exact (List.getElem_inj (h₀:=a1) (h₁:=a2) ndn).mp (b1.trans (e.trans b2.symm))
  ·obtain ⟨r1,r2,r3⟩:=f6 r hr;refine ⟨r1,r2,?_⟩
   cases r with
   |ifq x q=>show q < F.rows.length;rw [f5];exact r3
   |to q=>show q < F.rows.length;rw [f5];exact r3
   |num x n=>exact r3
   |does x w y z=>exact r3
   |call x g ys =>
    have r3:gv[g]?=some ys.length:=r3;exact ⟨by have:=(List.getElem?_eq_some_iff.mp r3).1;rw [List.length_map];omega,by rw [eg];exact r3⟩
   |copy x y=>exact trivial
   |dye x=>exact trivial
   |wash x=>exact trivial
   |ret x=>exact trivial
 ·refine Nat.le_trans (sm P bs l1 fun i b F h1 h3=>?_) t;obtain ⟨k,h2⟩:∃ k,gv[i]?=some k:=⟨_,List.getElem?_eq_getElem (by have:=(List.getElem?_eq_some_iff.mp h1).1;omega)⟩
  exact (h i b k F h1 h2 h3).2.2.2.2.2.2.1
theorem b6L{o:List Nat}{many:Nat}{gv:List Nat}{r:Rw}(hr:a0J 4 many gv r)(ho:∀ x ∈ d8 r,x ∈ o):a0J o.length many gv (O1 o r):=by
 obtain ⟨h1,h2,h3⟩:=hr;have ix:∀ x ∈ d8 r,o.idxOf x < o.length:=fun x hx=>List.idxOf_lt_length_of_mem (ho x hx)
 cases r with
 |to q=>exact ⟨(fun x hx=>nomatch hx),h2,h3⟩
 |num x k=>exact ⟨fun y hy=>by have hy:y ∈ [o.idxOf x]:=hy;rw [List.mem_singleton.mp hy];exact ix x (by simp [d8]),h2,h3⟩
 |dye x=>exact ⟨fun y hy=>by have hy:y ∈ [o.idxOf x]:=hy;rw [List.mem_singleton.mp hy];exact ix x (by simp [d8]),h2,trivial⟩
 |wash x=>exact ⟨fun y hy=>by have hy:y ∈ [o.idxOf x]:=hy;rw [List.mem_singleton.mp hy];exact ix x (by simp [d8]),h2,trivial⟩
 |ret x=>exact ⟨fun y hy=>by have hy:y ∈ [o.idxOf x]:=hy;rw [List.mem_singleton.mp hy];exact ix x (by simp [d8]),h2,trivial⟩
 |ifq x q=>exact ⟨fun y hy=>by have hy:y ∈ [o.idxOf x]:=hy;rw [List.mem_singleton.mp hy];exact ix x (by simp [d8]),h2,h3⟩
 |copy x y=>exact ⟨fun z hz=>by
   have hz:z ∈ [o.idxOf x,o.idxOf y]:=hz
   simp at hz
   rcases hz with q | q <;> rw [q]
   ·exact ix x (by simp [d8])
   ·exact ix y (by simp [d8]),h2,trivial⟩
 |does x w y u=>exact ⟨fun z hz=>by
   have hz:z ∈ [o.idxOf x,o.idxOf y,o.idxOf u]:=hz
   simp at hz
   rcases hz with q | q | q <;> rw [q]
   ·exact ix x (by simp [d8])
   ·exact ix y (by simp [d8])
   ·exact ix u (by simp [d8]),h2,h3⟩
 |call x g ys=>exact ⟨fun z hz=>by
   have hz:z ∈ o.idxOf x :: ys.map o.idxOf:=hz
   rcases List.mem_cons.mp hz with q | q
   ·rw [q];exact ix x (by simp [d8])
   ·obtain ⟨y,hy,rfl⟩:=List.mem_map.mp q;exact ix y (by simp [d8,hy]),by show (ys.map o.idxOf).length + 1 <= 10;rw [List.length_map];exact h2,by show gv[g]?=some (ys.map o.idxOf).length;rw [List.length_map];exact h3⟩
theorem b4D(o:List Nat)(r:Rw):wtR (O1 o r)=wtR r:=by cases r <;> rfl
def a9z:DSp:=fun ds h Q=>∃ (ns:List Int) (ws nm:List Str) (iw jn:Nat),ds=[.scr (ns.map .int),.ref iw,.ref jn,.tup [.int 6,.int 9,.int 24,.int 4]]/\h[iw]?=some (.lst (ws.map .str))/\h[jn]?=some (.lst (nm.map .str))/\ns.length <= 63/\(∀ x ∈ ns,Builtin.Int.intBits x <= 1048576)/\ws.length=6/\nm.length=4/\NG ws/\ws.Nodup/\NG nm/\nm.Nodup/\∀ P:List Fu,PrG P->Q (.lst (P.map fuD)) h
theorem b3N:∀ ds h Q,a9z ds h Q->m4 18 b5W ds h (Dr h Q):=by
 rintro ds h Q ⟨ns,ws,nm,iw,jn,rfl,hiw,hjn,hl,hb,w6,n4,wok,wnd,nok,nnd,q⟩
 delta m4 b5W;simp only [VS];left;simp only [VV];refine ⟨ns,7,rfl,hl,hb,by decide,fun r7=>?_⟩;simp only [VV];refine ⟨by decide,?_⟩;generalize (r7 % 2 == 1)=free;subst hN;left;simp only [VV];subst hN;left;simp only [VV];refine ⟨ns,9,54,rfl,hl,hb,by decide,by decide,fun cs hcs=>?_⟩;simp only [VV];refine ⟨cs,rfl,by right,fun bs b1 b6 b8 t24=>?_⟩;subst hN;left;simp only [List.length_map,VV];refine ⟨⟨by right,by right⟩,by rw [A3];omega,?_⟩;rw [u7,Int.toNat_natCast];refine F6 (fun p a δ h'=>h'=h/\(∃ o,δ=[o,some (.scr (ns.map D.int))])/\∃ vs:List Int,a=vs.map D.int/\vs.length=p.length) ⟨rfl,⟨_,rfl⟩,[],rfl,rfl⟩ (fun _ _ _ _ _=>Src.ok_nil) ?_ ?_
 ·rintro p y r acc δ h' N e ⟨rfl,⟨o,rfl⟩,vs,rfl,lv⟩ hN
  obtain ⟨rfl,hy⟩:=y6 e;simp only [VV];refine ⟨ns,p.length,by rw [Int.zero_add],hl,hb,by right,fun r=>?_⟩;exact hN _ _ _ ⟨rfl,⟨_,rfl⟩,vs ++ [r],by rw [List.map_append];rfl,by simp [lv]⟩
 rintro a δ h' ⟨rfl,_,hs,rfl,lv⟩
 rw [List.length_range] at lv;subst hN;left;simp only [VV];refine ⟨by rw [List.length_map];omega,?_⟩;refine z6 (fun x:Int=>.int (x % (4 + 1))) Src.ok_nil none (fun x hx K k=>by simp only [VV];exact ⟨by decide,k⟩) ?_
 have eg:(hs.map fun x:Int=>D.int (x % (4 + 1)))=(hs.map fun x=>(x % 5).toNat).map nD:=by
  rw [List.map_map]
  apply List.map_congr_left
  intro x hx;show D.int (x % 5) = .int (((x % 5).toNat:Nat):Int);rw [Int.toNat_of_nonneg (Int.emod_nonneg _ (by decide))]
 generalize hgv:(hs.map fun x=>(x % 5).toNat)=gv at eg;have gl:gv.length=bs.length:=by rw [<- hgv,List.length_map,lv]
 have g4:∀ k ∈ gv,k <= 4:=fun k hk=>by
  rw [<- hgv] at hk;obtain ⟨x,_,rfl⟩:=List.mem_map.mp hk;omega
 rw [eg];subst hN;left;simp only [VV];subst hN;left;simp only [VV];rw [C4];refine n6 (fun p δ hh=>∃ (Ps:List Fu) (g:Hh) (x10 x11 x12 x13 x14 x15 x16 x17:Option D),δ=[some (.scr (ns.map .int)),some (.ref iw),some (.ref jn),some (.tup [.int 6,.int 9,.int 24,.int 4]),some (.bl free),some (.int 4),some (.lst (bs.map boD)),some (.lst (hs.map .int)),some (.lst (gv.map nD)),some (.ref h'.length),x10,x11,x12,x13,x14,x15,x16,x17]/\hh=h' ++ (.lst (Ps.map fuD) :: g)/\Ps.length=p.length/\∀ (i:Nat) (b:List Int) (k:Nat) (F:Fu),bs[i]?=some b->gv[i]?=some k->Ps[i]?=some F->b8X gv ws nm i b k F) ⟨[],[],none,none,none,none,none,none,none,none,rfl,rfl,rfl,fun i b k F _ _ h3=>nomatch h3⟩ (fun _ _ _ _=>Src.ok_nil) ?_ ?_
 ·rintro p ⟨b,i⟩ rest δ hh N1 e ⟨Ps,g,x10,x11,x12,x13,x14,x15,x16,x17,rfl,rfl,pl,pok⟩ hN1
  obtain ⟨hi,hbi⟩:=S4 e;have il:=(List.getElem?_eq_some_iff.mp hbi).1;have bl8:=b8 b (List.mem_of_getElem? hbi);obtain ⟨hd,hhd⟩:∃ x,hs[p.length]?=some x:=⟨_,List.getElem?_eq_getElem (by right)⟩
  obtain ⟨k,hk⟩:∃ x,gv[p.length]?=some x:=⟨_,List.getElem?_eq_getElem (by right)⟩
  obtain ⟨wd_,hwd⟩:∃ x,ws[p.length]?=some x:=⟨_,List.getElem?_eq_getElem (by right)⟩
  have k4:=g4 k (List.mem_of_getElem? hk);have ixH:atI (hs.map D.int) (0 + (i:Int))=some (.int hd):=by rw [Int.zero_add,hi,atN,List.getElem?_map,hhd];rfl
  have ixK:atI (gv.map nD) (0 + (i:Int))=some (nD k):=by rw [Int.zero_add,hi,atN,List.getElem?_map,hk];rfl
  generalize hh1:h' ++ (.lst (Ps.map fuD) :: g)=h1;simp only [VV];refine ⟨trivial,?_⟩;left;simp only [boD,VV];refine ⟨by rw [List.length_map];omega,?_⟩;refine F6 (fun p' a δ hh=>hh=h1/\(∃ o,δ=[o,some (.lst (gv.map nD)),some (.lst (b.map D.int)),some (.int 4),some (.bl free)])/\∃ rs:List Rw,a=rs.map roD/\rs.length=p'.length/\(∀ r ∈ rs,a0J 4 (b.length + 1) gv r)/\(rs.map wtR).sum <= wtB p') ⟨rfl,⟨_,rfl⟩,[],rfl,rfl,(fun r hr=>nomatch hr),Nat.le_refl _⟩ (fun _ _ _ _ _=>Src.ok_nil) ?_ ?_
  ·rintro p' c r acc δ hh N e' ⟨rfl,⟨o,rfl⟩,rs,rfl,rl,rok,rw_⟩ hN
   simp only [List.length_map,VV];refine ⟨c,gv,b.length + 1,4,free,by rw [Int.natCast_add];rfl,by decide,by decide,by right,by right,by right,by right,g4,fun r1 r1ok r1w=>?_⟩;refine hN _ _ _ ⟨rfl,⟨_,rfl⟩,rs ++ [r1],by rw [List.map_append];rfl,by simp [rl],fun r hr=>?_,?_⟩
   ·rcases List.mem_append.mp hr with z | z
    ·exact rok r z
    ·rw [List.mem_singleton.mp z];exact r1ok
   ·have:wtR r1 <= wtC c:=by
     unfold wtC
     by_cases z:c % 11=6
     ·rw [if_pos z];cases r1 <;> exact Nat.le_of_ble_eq_true rfl
     ·rw [if_neg z]
      cases r1 with
      |ifq x q=>exact absurd (r1w rfl) z
      |_=>exact Nat.le_refl 1
    unfold wtB at rw_ ⊢;rw [List.map_append,List.map_append,List.sum_append,List.sum_append]
    simp
    omega
  rintro a δ hh ⟨rfl,_,rs,rfl,rl,rok,rwt⟩
  subst hN;left;simp only [ixH,VV];refine ⟨⟨by decide,by decide⟩,?_⟩;generalize hd / (4 + 1)=last;subst hN;left;simp only [o5,p8,List.length_map,VV]
  obtain ⟨r0,er,r0ok,r0w,r0l⟩:∃ r:Rw,atI [D.tup [D.str "to",D.int (last / 3 % ((b.length:Int) + 1))],D.tup [D.str "return",D.int (last / 3 % 4)]] (if last % 3 < 1 then last % 3 else 1)=some (roD r)/\a0J 4 (b.length + 1) gv r/\wtR r=1/\((∃ q,r = .to q)\/∃ x,r = .ret x):=by
   obtain ⟨t,ht,et⟩:=mdN (last / 3) (b.length + 1) (by right);obtain ⟨x,hx,ex⟩:=mdN (last / 3) 4 (by decide);rw [Int.natCast_add] at et;have et:last / 3 % ((b.length:Int) + 1)=(t:Int):=et;have ex:last / 3 % 4=(x:Int):=ex;rw [et,ex]
   by_cases z:last % 3 < 1
   ·have z0:last % 3=0:=by right
    rw [if_pos z,z0];exact ⟨.to t,rfl,⟨(fun x hx=>nomatch hx),Nat.le_of_ble_eq_true rfl,ht⟩,rfl,.inl ⟨_,rfl⟩⟩
   ·rw [if_neg z];exact ⟨.ret x,rfl,⟨fun y hy=>by have hy:y ∈ [x]:=hy;rw [List.mem_singleton.mp hy];exact hx,Nat.le_of_ble_eq_true rfl,trivial⟩,rfl,.inr ⟨_,rfl⟩⟩
  rw [er];refine ⟨⟨by decide,by decide⟩,by right,⟨by decide,by decide⟩,by decide,by decide,by right,?_⟩;have em:rs.map roD ++ [roD r0]=(rs ++ [r0]).map roD:=by rw [List.map_append];rfl
  rw [em];have Rl:(rs ++ [r0]).length=b.length + 1:=by rw [List.length_append,rl];rfl
  have Rok:∀ r ∈ rs ++ [r0],a0J 4 (b.length + 1) gv r:=fun r hr=>by
   rcases List.mem_append.mp hr with z | z
   ·exact rok r z
   ·rw [List.mem_singleton.mp z];exact r0ok
  have Rw_:((rs ++ [r0]).map wtR).sum <= 1 + wtB b:=by
   rw [List.map_append,List.sum_append]
   simp
   omega
  have Rlast:a3o (rs ++ [r0]):=⟨rs,r0,rfl,r0l⟩
  generalize rs ++ [r0]=R at Rl Rok Rw_ Rlast;clear rl rok rwt er r0ok r0w r0l em;subst hN;left;simp only [ixK,VV];refine ⟨⟨by right,by right⟩,by right,?_⟩
  have ek:z5 0 ((k:Int)).toNat=(List.range k).map nD:=by
   rw [u7,Int.toNat_natCast]
   apply List.map_congr_left
   intro x _;rw [Int.zero_add]
  rw [ek];have l2':A2 (hh ++ [O.lst (R.map roD)]) (.ref hh.length)=some (R.map roD):=G3 _ _;generalize hh2:hh ++ [O.lst (R.map roD)]=h2 at l2';subst hN;left;obtain ⟨w,s1,s2⟩:=b0q l2';simp only [s1 _ (Pre.app _ _),VV];refine n6 (fun p1 δ hx=>∃ (o:List Nat) (x15 x16:Option D),δ=[some (.scr (ns.map .int)),some (.ref iw),some (.ref jn),some (.tup [.int 6,.int 9,.int 24,.int 4]),some (.bl free),some (.int 4),some (.lst (bs.map boD)),some (.lst (hs.map .int)),some (.lst (gv.map nD)),some (.ref h'.length),some (.int (0 + (i:Int))),some (.lst (b.map D.int)),some (.ref hh.length),some (.int last),some (.ref h2.length),x15,x16,x17]/\hx=h2 ++ [.lst (o.map nD)]/\o.Nodup/\(∀ x ∈ o,x < 4)/\k <= o.length/\(∀ r ∈ p1,∀ x ∈ d8 r,x ∈ o)/\o=ext (List.range k) (p1.flatMap d8)) ⟨List.range k,x15,x16,rfl,rfl,List.nodup_range,fun x hx=>by have:=List.mem_range.mp hx;omega,by simp,(fun r hr=>nomatch hr),rfl⟩ ?_ ?_ ?_
  ·rintro p1 δ hx ⟨o,x15,x16,rfl,rfl,_⟩
   exact s2 _ _ (Pre.app _ _)
  ·rintro p1 r rest1 δ hx N3 e1 ⟨o,x15,x16,rfl,rfl,nd,lt,kl,cov,ex⟩ hN3
   have rk:=Rok r (by rw [e1];simp);simp only [VV];refine ⟨r,rfl,Nat.le_trans rk.2.1 (by decide),?_⟩;simp only [VV];refine n6 (fun p2 δ hx=>∃ (o2:List Nat) (x16:Option D),δ=[some (.scr (ns.map .int)),some (.ref iw),some (.ref jn),some (.tup [.int 6,.int 9,.int 24,.int 4]),some (.bl free),some (.int 4),some (.lst (bs.map boD)),some (.lst (hs.map .int)),some (.lst (gv.map nD)),some (.ref h'.length),some (.int (0 + (i:Int))),some (.lst (b.map D.int)),some (.ref hh.length),some (.int last),some (.ref h2.length),some (roD r),x16,x17]/\hx=h2 ++ [.lst (o2.map nD)]/\o2.Nodup/\(∀ x ∈ o2,x < 4)/\k <= o2.length/\(∀ r ∈ p1,∀ x ∈ d8 r,x ∈ o2)/\(∀ x ∈ p2,x ∈ o2)/\o2=ext (List.range k) (p1.flatMap d8 ++ p2)) ⟨o,x16,rfl,rfl,nd,lt,kl,cov,(fun x hx=>nomatch hx),by rw [List.append_nil];exact ex⟩ (fun _ _ _ _=>Src.ok_nil) ?_ ?_
   ·rintro p2 x r2 δ hx N4 e2 ⟨o2,x16,rfl,rfl,nd2,lt2,kl2,cov2,c3,ex2⟩ hN4
    have hx4:x < 4:=rk.1 x (by rw [e2];simp);have o4:=a2x 4 o2 nd2 lt2;have lo:B6 (h2 ++ [O.lst (o2.map nD)]) (.ref h2.length)=some (o2.map nD):=Y0 (G3 _ _);simp only [lo,b0s,VV];refine ⟨by rw [a4v];rfl,?_⟩
    by_cases nm_:x ∈ o2
    case neg =>
     simp only [nm_,o5,p8,List.length_map,VV];refine ⟨by right,hN4 _ _ ⟨o2 ++ [x],_,rfl,by rw [List.map_append];rfl,?_,?_,by rw [List.length_append];omega,fun r hr y hy=>List.mem_append_left _ (cov2 r hr y hy),fun y hy=>?_,?_⟩⟩
     ·rw [List.nodup_append];exact ⟨nd2,by simp,fun a ha b hb=>by rw [List.mem_singleton.mp hb];exact fun q=>nm_ (q ▸ ha)⟩
     ·intro y hy
      rcases List.mem_append.mp hy with z | z
      ·exact lt2 y z
      ·rw [List.mem_singleton.mp z];exact hx4
     ·rcases List.mem_append.mp hy with z | z
      ·exact List.mem_append_left _ (c3 y z)
      ·exact List.mem_append_right _ z
     ·rw [<- List.append_assoc,V9,<- ex2,if_neg nm_]
    case pos =>
     simp only [nm_,VV];refine hN4 _ _ ⟨o2,_,rfl,rfl,nd2,lt2,kl2,cov2,fun y hy=>?_,?_⟩
     ·rcases List.mem_append.mp hy with z | z
      ·exact c3 y z
      ·rw [List.mem_singleton.mp z];exact nm_
     ·rw [<- List.append_assoc,V9,<- ex2,if_pos nm_]
   ·rintro δ hx ⟨o2,x16,rfl,rfl,nd2,lt2,kl2,cov2,c3,ex2⟩
    refine hN3 _ _ ⟨o2,_,_,rfl,rfl,nd2,lt2,kl2,fun r' hr' y hy=>?_,?_⟩
    ·rcases List.mem_append.mp hr' with z | z
     ·exact cov2 r' z y hy
     ·rw [List.mem_singleton.mp z] at hy;exact c3 y hy
    ·rw [List.flatMap_append,List.flatMap_singleton];exact ex2
  rintro δ hx ⟨o,x15,x16,rfl,rfl,nd,lt,kl,cov,ex⟩
  have o4:=a2x 4 o nd lt
  have up:∀ (i:Nat) (u:O),h'[i]?=some u->(h2 ++ [O.lst (o.map nD)])[i]?=some u:=fun i u hu=>by
   rw [<- hh2,<- hh1,List.append_assoc,List.append_assoc,List.getElem?_append_left (List.getElem?_eq_some_iff.mp hu).1];exact hu
  have ixW:ixD (h2 ++ [O.lst (o.map nD)]) (.ref iw) (.int (0 + (i:Int)))=some (.str wd_):=by
   rw [a0a (D3 (up _ _ hiw)),Int.zero_add,hi,atN,List.getElem?_map,hwd];rfl
  subst hN;left;simp only [D6 (o5 h2 (O.lst (o.map nD))),VV];refine ⟨by rw [List.length_map];omega,?_⟩;refine z6 (fun j:Nat=>D.str (nm.getD j "")) (fun z hz=>by rw [List.mem_singleton.mp hz];exact o5 _ _) none (fun j hj K kk=>?_) ?_
  ·have j4:=lt j hj;have ixn:ixD (h2 ++ [O.lst (o.map nD)]) (.ref jn) (.int (j:Int))=some (.str (nm.getD j "")):=by rw [a0a (D3 (up _ _ hjn)),atN,List.getElem?_map,List.getD_eq_getElem?_getD,List.getElem?_eq_getElem (by right)];rfl
   simp only [ixn,VV];exact kk
  subst hN
  have g0:(h2 ++ [O.lst (o.map nD)])[h'.length]?=some (.lst (Ps.map fuD)):=by
   rw [<- hh2,<- hh1,List.append_assoc,List.append_assoc,List.getElem?_append_right (Nat.le_refl _),Nat.sub_self];rfl
  have g1:∀ X,(h2 ++ [O.lst (o.map nD)]).set h'.length (.lst X)=h' ++ (.lst X :: (g ++ [O.lst (R.map roD),O.lst (o.map nD)])):=fun X=>by
   rw [<- hh2,<- hh1,List.append_assoc,List.append_assoc,List.set_append_right _ _ (Nat.le_refl _),Nat.sub_self]
   simp
  simp only [g0,ixW,ixK,s1 _ (Pre.app _ _),VV];refine ⟨by rw [List.length_map];omega,?_⟩;refine z6 (fun r=>roD (O1 o r)) (s2 _ _ (Pre.app _ _)) none (fun r hr K kk=>?_) ?_
  ·simp only [VV];exact ⟨r,.ref h2.length,o,rfl,G3 _ _,by right,cov r hr,Nat.le_trans (Rok r hr).2.1 (by decide),kk⟩
  rw [g0];dsimp only;refine ⟨by rw [List.length_map];omega,?_⟩;rw [g1]
  have eF:D.tup [.str wd_,nD k,.tup (o.map fun j:Nat=>D.str (nm.getD j "")),.tup (R.map fun r=>roD (O1 o r))]=fuD ⟨wd_,k,o.map (fun j=>nm.getD j ""),R.map (O1 o)⟩:=by
   unfold fuD;dsimp only;rw [List.map_map,List.map_map];rfl
  rw [eF];refine hN1 _ _ ⟨Ps ++ [⟨wd_,k,o.map (fun j=>nm.getD j ""),R.map (O1 o)⟩],_,_,_,_,_,_,_,_,_,rfl,by rw [List.map_append];rfl,by simp [pl],fun i' b' k' F' q1 q2 q3=>?_⟩
  rcases Nat.lt_or_ge i' Ps.length with z | z
  ·rw [List.getElem?_append_left z] at q3;exact pok i' b' k' F' q1 q2 q3
  ·have zi:i'=p.length:=by
    have:=(List.getElem?_eq_some_iff.mp q3).1
    rw [List.length_append,List.length_singleton] at this;omega
   subst zi;rw [List.getElem?_append_right z,show p.length - Ps.length=0 by right] at q3;rw [hbi] at q1;rw [hk] at q2
   cases q1;cases q2;cases q3;have eo:=a3z (R.flatMap d8) (List.range k);rw [<- ex,List.length_range,<- a1q] at eo;refine ⟨hwd,⟨o,nd,fun x hx=>by rw [n4];exact lt x hx,rfl⟩,rfl,by show k <= (o.map _).length;rw [List.length_map];exact kl,by show (R.map _).length=_;rw [List.length_map];exact Rl,fun r hr=>?_,?_,eo.1,by show grow k _=(o.map _).length;rw [List.length_map];exact eo.2,a7j Rlast⟩
   ·obtain ⟨r',hr',rfl⟩:=List.mem_map.mp hr;show a0J (o.map _).length _ _ _;rw [List.length_map];exact b6L (Rok r' hr') (cov r' hr')
   ·show ((R.map (O1 o)).map wtR).sum <= _;rw [List.map_map,show (wtR ∘ O1 o)=wtR from funext (b4D o)];exact Rw_
 ·rintro δ hh ⟨Ps,g,x10,x11,x12,x13,x14,x15,x16,x17,rfl,rfl,pl,pok⟩
  rw [List.length_zipIdx] at pl;have pg:=b1m pl gl b1 b6 b8 t24 (Nat.le_of_eq n4) wok wnd nok nnd pok;subst hN;simp only [VV]
  have:=Dr.dropL (h:=h') (Q:=Q) (xs:=Ps.map fuD) (g1:=[]) (g2:=g) (k:=h'.length) (p7 a3G _) (by simp) (q Ps pg)
  simpa using this
theorem b8m{f:Addr}{fd:FuncData}(F:Fun K "_law_program" "_law_program" b4q f fd)(T:Txt P w K mg)(C_q1:Cal P w K mg base 1 "_law_cell_at" ["_law_script","_law_k"] (spD K 2 Q6))(C_q2:Cal P w K mg base 2 "_law_cells" ["_law_script","_law_first","_law_most"] (spD K 3 b1S))(C_q0:Cal P w K mg base 1 "_law_bodies" ["_law_cells_here","_law_sizes"] (spD K 2 b0Y))(C_q4:Cal P w K mg base 3 "_law_drawn_row" ["_law_cell","_law_gives","_law_many","_law_labels_here","_law_free"] (spD K 5 a9X))(C_q6:Cal P w K mg base 1 "_law_labels" ["_law_row"] (spD K 1 b0u))(C_q10:Cal P w K mg base 1 "_law_renumbered" ["_law_row","_law_order"] (spD K 2 a3u)):t8 P w K mg base CX0 4 f fd ["_law_script","_law_words","_law_names_here","_law_sizes"] (spD K 4 a9z) :=
 B8 (k:=3) (b:=b5W) F sc_q9 (fun cdv A outer s H E hr=>by
  refine c7 ?_ ?_
  ·refine i9 (i:=4) sc_q9.nd rfl (Or.inr rfl) ?_;exact y4 (j6 hr.units) (d7 l5 (h7 C_q1 (hr.mono (by decide)) rfl (a9 (sv 0) (a9 b7 c6))) b7) b7
  refine c7 ?_ ?_
  ·exact i9 (i:=5) sc_q9.nd rfl (Or.inr rfl) (d4 d3 (sv 3) b7)
  refine c7 ?_ ?_
  ·refine i9 (i:=6) sc_q9.nd rfl (Or.inl rfl) ?_;exact h7 C_q0 (hr.mono (by decide)) rfl (a9 (h7 C_q2 (hr.mono (by decide)) rfl (a9 (sv 0) (a9 b7 (a9 b7 c6)))) (a9 (sv 3) c6))
  refine c7 ?_ ?_
  ·exact a3A (i:=7) (hN:=sc_q9.nd) (hix:=rfl) (hx:=(Or.inl rfl)) rfl (N':= ["_law_f","_law_script"]) (js:=[none,some 0]) ⟨rfl,by decide +kernel,rfl,rfl,rfl⟩ (C5 rfl T.b_range (a9 (i7 m6 rfl T.b_len PySem.boot_len (a9 (sv 6) c6)) c6)) (fun s0 H0 fp=>⟨(h6 (i:=0) (show (["_law_f","_law_script"]:List Str).Nodup by decide +kernel) rfl (Or.inl rfl)),u2,(h7 C_q1 (hr.mono (by decide)) rfl (a9 (sv 1) (a9 (sv 0) c6)))⟩)
  refine c7 ?_ ?_
  ·refine i9 (i:=8) sc_q9.nd rfl (Or.inr rfl) ?_;refine p4 ?_;exact p9 rfl (N':= ["_law_head","_law_labels_here"]) (js:=[none,some 5]) ⟨rfl,by decide +kernel,rfl,rfl,rfl⟩ (o9 (sv 7)) (fun s0 H0 fp=>⟨(h6 (i:=0) (show (["_law_head","_law_labels_here"]:List Str).Nodup by decide +kernel) rfl (Or.inl rfl)),u2,(d7 l5 (sv 0) (d7 j0 (sv 1) b7))⟩)
  refine c7 ?_ ?_
  ·exact i9 (i:=9) sc_q9.nd rfl (Or.inl rfl) (J4 (j5 c6))
  refine c7 ?_ (c8 (i6 (sv 9)));refine z4 PassesOwn.never rfl (O3 rfl T.b_enumerate (a9 (sv 6) c6)) ?_ ?_
  ·exact F0 rfl (l4 (h6 (i:=10) sc_q9.nd rfl (Or.inl rfl)) (l4 (h6 (i:=11) sc_q9.nd rfl (Or.inr rfl)) B3))
  refine c7 ?_ ?_
  ·exact b2g (i:=12) (hN:=sc_q9.nd) (hix:=rfl) (hx:=(Or.inl rfl)) rfl (N':= ["_law_cell","_law_gives","_law_body","_law_labels_here","_law_free"]) (js:=[none,some 8,some 11,some 5,some 4]) ⟨rfl,by decide +kernel,rfl,rfl,rfl⟩ (o9 (sv 11)) (fun s0 H0 fp=>⟨(h6 (i:=0) (show (["_law_cell","_law_gives","_law_body","_law_labels_here","_law_free"]:List Str).Nodup by decide +kernel) rfl (Or.inl rfl)),u2,(h7 C_q4 (hr.mono (by decide)) rfl (a9 (sv 0) (a9 (sv 1) (a9 (d7 j0 (i7 m6 rfl T.b_len PySem.boot_len (a9 (sv 2) c6)) b7) (a9 (sv 3) (a9 (sv 4) c6))))))⟩)
  refine c7 ?_ ?_
  ·exact i9 (i:=13) sc_q9.nd rfl (Or.inl rfl) (d7 u6 (d4 d3 (sv 7) (sv 10)) (d7 j0 (sv 5) b7))
  refine c7 ?_ ?_
  ·refine s9 ?_;exact n9 (sv 12) (a9 (d4 d3 (p4 (j5 (a9 (o6 (a9 d6 (a9 (d7 l5 (d7 u6 (sv 13) b7) (d7 j0 (i7 m6 rfl T.b_len PySem.boot_len (a9 (sv 11) c6)) b7)) c6))) (a9 (o6 (a9 d6 (a9 (d7 l5 (d7 u6 (sv 13) b7) (sv 5)) c6))) c6)))) (i7 (a6p rfl) rfl T.b_min PyProof.Rows.boot_min (a9 b7 (a9 (d7 l5 (sv 13) b7) c6)))) c6)
  refine c7 ?_ ?_
  ·refine i9 (i:=14) sc_q9.nd rfl (Or.inr rfl) ?_;exact J4 (a1l rfl rfl T.b_list rfl T.b_range (a9 (d4 d3 (sv 8) (sv 10)) c6))
  refine c7 ?_ ?_
  ·refine z4 PassesOwn.never rfl (o9 (sv 12)) (h6 (i:=15) sc_q9.nd rfl (Or.inl rfl)) ?_;refine c8 ?_;refine z4 PassesOwn.never rfl (o9 (h7 C_q6 (hr.mono (by decide)) rfl (a9 (sv 15) c6))) (h6 (i:=16) sc_q9.nd rfl (Or.inl rfl)) ?_;refine c8 ?_;exact m7 (g9 P6 (sv 16) (sv 14) rfl) (c8 (s9 (n9 (sv 14) (a9 (sv 16) c6)))) i5
  refine c7 ?_ ?_
  ·refine i9 (i:=17) sc_q9.nd rfl (Or.inl rfl) ?_;exact o8 D4 rfl T.b_tuple PyProof.Rows.boot_tuple (a9 (p4 (p9 rfl (N':= ["_law_label","_law_names_here"]) (js:=[none,some 2]) ⟨rfl,by decide +kernel,rfl,rfl,rfl⟩ (o9 (sv 14)) (fun s0 H0 fp=>⟨(h6 (i:=0) (show (["_law_label","_law_names_here"]:List Str).Nodup by decide +kernel) rfl (Or.inl rfl)),u2,(d4 d3 (sv 1) (sv 0))⟩))) c6)
  refine c8 ?_;refine s9 ?_;exact n9 (sv 9) (a9 (o6 (a9 (d4 d3 (sv 1) (sv 10)) (a9 (d4 d3 (sv 8) (sv 10)) (a9 (sv 17) (a9 (o8 D4 rfl T.b_tuple PyProof.Rows.boot_tuple (a9 (p4 (p9 rfl (N':= ["_law_row","_law_order"]) (js:=[none,some 14]) ⟨rfl,by decide +kernel,rfl,rfl,rfl⟩ (o9 (sv 12)) (fun s0 H0 fp=>⟨(h6 (i:=0) (show (["_law_row","_law_order"]:List Str).Nodup by decide +kernel) rfl (Or.inl rfl)),u2,(h7 C_q10 (hr.mono (by decide)) rfl (a9 (sv 0) (a9 (sv 1) c6)))⟩))) c6)) c6))))) c6)) b3N
def b4l:DS:=(d9 (j7 (n8 a4N (b0 (b9 1) (b0 (dOp m3 (dOp E3 (dC (.int 12)) (dCB v9 (b0 (b9 0) d2))) (dC (.int 1))) (b0 (b9 2) d2)))) (d5 3))
  (d9 (j7 (dTk (a5J (dV (b0 (dOp a0h (dC (.str " ")) (dOp u3 (dOp pIx (b9 3) (dC (.int 0))) (dC (.int 2)))) d2)) (dOp u3 (dOp F4 (dOp pIx (b9 3) (dC (.int 0))) (dC (.int 2))) (dC (.int 2))))) (d5 4))
  (d9 (C9 (Q2 (b0 (b9 0) d2)) (V0 2 (p6 (d5 5) (p6 (d5 6) K5))) (d9 (j7 (dOp a0h (dC (.str " ")) (dOp F4 (dOp u3 (dOp F4 (dOp pIx (b9 3) (dOp m3 (dOp E3 (dC (.int 12)) (b9 5)) (dC (.int 1)))) (dC (.int 7))) (dC (.int 4))) (dC (.int 2)))) (d5 7))
  (d9 (C9 (Q2 (b0 (b9 6) d2)) (V0 2 (p6 (d5 8) (p6 (d5 9) K5))) (j7 (dOp a1w (dOp m3 (b9 7) (b9 9)) (dOp a0h (dC (.str " ")) (dOp m3 (dC (.int 1)) (dOp u3 (dOp F4 (dOp pIx (b9 3) (dOp m3 (dOp m3 (dOp E3 (dC (.int 12)) (b9 5)) (dC (.int 2))) (dOp u3 (b9 8) (dC (.int 8))))) (dC (.int 7))) (dC (.int 3)))))) (d5 7)))
  (d9 (m5 (j9 (dOp (pEq false) (dOp u3 (dOp F4 (dOp pIx (b9 3) (dOp m3 (dOp E3 (dC (.int 12)) (b9 5)) (dC (.int 11)))) (dC (.int 7))) (dC (.int 2))) (dC (.int 0)))) (j7 (a7M (b9 7)) (d5 7)) j2)
  (d9 (v8 (q8 (b9 4) (b0 (b9 7) d2)))
  (v8 (U1 (b9 4) (b0 (dV (a5J (dV (b0 (dOp a0h (dC (.str " ")) (dOp u3 (dOp F4 (dOp pIx (b9 3) (dOp m3 (dOp E3 (dC (.int 12)) (b9 5)) (dC (.int 10)))) (dC (.int 49))) (dC (.int 3)))) d2)) (dCB a6k (b0 (dOp (pEq false) (dOp u3 (dOp F4 (dOp pIx (b9 3) (dOp m3 (dOp E3 (dC (.int 12)) (b9 5)) (dC (.int 10)))) (dC (.int 7))) (dC (.int 7))) (dC (.int 3))) d2)))) d2))))))))
  (j8 (S9 (dC (.str "\n")) (b0 (b9 4) d2))))))
theorem rp:∀ k < 4,cl (C1 sp k)=List.replicate k 32/\(C1 sp k).length=k:=by decide +kernel
theorem b8E{c:Nat}(h1:32 <= c)(h2:c <= 126):Unicode.isSpace c=decide (c=32):=by
 have:∀ c < 127,32 <= c->Unicode.isSpace c=decide (c=32):=by decide +kernel
 exact this c (by right) h1
def plain(x:Str)(n:Nat):Prop:=(∀ c ∈ cl x,32 <= c/\c <= 126)/\x.length <= n
theorem a1F{x:Str}{n:Nat}(h:plain x n):10 ∉ cl x/\PyData.strOk x=true :=
 ⟨fun z=>by have:=h.1 _ z;omega,(E1 _).mpr fun c hc=>by have:=h.1 c hc;omega⟩
theorem R9{k:Nat}(h:k < 4):plain (C1 sp k) 3:=by
 obtain ⟨a,b⟩:=rp k h;refine ⟨fun c hc=>?_,by right⟩;rw [a] at hc
 have:=(List.mem_replicate.mp hc).2
 omega
theorem a6J{k:Nat}(h:k < 4):wsS (C1 sp k)=[]:=by
 have:=a0C (C1 sp k)
 rw [(rp k h).1,a3U] at this;exact List.map_eq_nil_iff.mp this
theorem a7I{l:List Int}{n:Nat}{i:Int}(e:i=(n:Int))(h:n < l.length):∃ a,atI (l.map D.int) i=some (.int a):=by
 rw [e,atN,List.getElem?_map,List.getElem?_eq_getElem h];exact ⟨_,rfl⟩
theorem a1W(k:Nat)(s:Str):(List.replicate k [D.str s]).flatten=(List.replicate k s).map D.str:=by
 induction k with
 |zero=>rfl
 |succ k ih=>rw [List.replicate_succ,List.flatten_cons,ih,List.replicate_succ];rfl
theorem Z1{ts:List Str}(h:∀ t ∈ ts,wsS t=[]):(ts.map wsS).filter (fun w=>decide (w ≠ []))=[]:=by
 rw [List.filter_eq_nil_iff];intro w hw;obtain ⟨t,ht,rfl⟩:=List.mem_map.mp hw;rw [h t ht];decide
theorem a0q{x:Str}:(∀ c ∈ cl (Txt.strip x),c ∈ cl x)/\(Txt.strip x).length <= x.length:=by
 have k:∃ a b,cl (Txt.strip x)=(cl x).extract a b\/Txt.strip x=x:=by
  unfold Txt.strip Txt.stripBy;split
  ·exact ⟨0,0,.inr rfl⟩
  ·have e:∃ a b,stripped Unicode.isSpace true true x=⟨x.cps.extract a b⟩:=by
    unfold stripped Builtin.Str.strSub;exact ⟨_,_,rfl⟩
   obtain ⟨a,b,e⟩:=e;refine ⟨a,b,.inl ?_⟩;rw [e];show ((x.cps.extract a b).toList)=_;rw [Array.toList_extract];rfl
 obtain ⟨a,b,k | k⟩:=k
 ·refine ⟨fun c hc=>?_,?_⟩
  ·rw [k,List.extract_eq_take_drop] at hc;exact List.mem_of_mem_drop (List.mem_of_mem_take hc)
  ·rw [<- A6,<- A6 x,k,List.extract_eq_take_drop,List.length_take,List.length_drop];omega
 ·rw [k];exact ⟨fun _ h=>h,Nat.le_refl _⟩
theorem c0S(a:Int)(n:Nat)(h:0 < n):∃ k:Nat,k < n/\a % (n:Int)=(k:Int):=mdN a n h
def b0P:DSp:=fun ds h Q=>∃ (ls:List (List Str)) (c:Int) (b:Bool),ds=[.lst (ls.map fun w=>.lst (w.map .str)),.int c,.bl b]/\1 <= ls.length/\ls.length <= 60/\(∀ l ∈ ls,l ≠ []/\l.length <= 14/\∀ w ∈ l,gw w)/\∀ ts:List Str,ts ≠ []->(∀ t ∈ ts,10 ∉ cl t/\PyData.strOk t=true)->(Str.join ⟨#[10]⟩ ts).length <= 1000000->ts.length <= 100000->(ts.map wsS).filter (fun w=>decide (w ≠ []))=ls->Q (.str (Str.join ⟨#[10]⟩ ts)) h
theorem b4p:∀ ds h Q,b0P ds h Q->m4 10 b4l ds h (Dr h Q):=by
 rintro ds h Q ⟨ls,c,b,rfl,l1,l60,ok,q⟩
 delta m4 b4l;simp only [VS];left;simp only [List.length_map,VV];refine ⟨Q1 (by right),c,12 * ls.length + 1,b,by rw [Int.natCast_add,Int.natCast_mul];rfl,by right,fun xs z hxs hz=>?_⟩;generalize hX:(xs ++ [z])=X;have xl:X.length=12 * ls.length + 2:=by rw [<- hX,List.length_append,hxs];rfl
 clear hX hz hxs;obtain ⟨a0,e0⟩:=a7I (l:=X) (n:=0) (i:=0) rfl (by right);subst hN;left;simp only [e0,a2b,VV];obtain ⟨k1,hk1,f1⟩:=mdN a0 2 (by decide);obtain ⟨k2,hk2,f2⟩:=mdN (a0 / 2) 2 (by decide);have f1:a0 % 2=(k1:Int):=f1;have f2:a0 / 2 % 2=(k2:Int):=f2;rw [f1,f2,Int.toNat_natCast,Int.toNat_natCast,a1W];have r1:=(rp k1 (by right)).2;refine ⟨by decide,⟨by right,by right,by decide,by right⟩,⟨by decide,by decide⟩,by decide,⟨by right,by right,by right⟩,?_⟩
 have T0:∀ s ∈ List.replicate k2 (C1 sp k1),plain s 400/\wsS s=[]:=fun s hs=>by
  rw [(List.mem_replicate.mp hs).2]
  have:=R9 (k:=k1) (by right)
  exact ⟨⟨this.1,by right⟩,a6J (by right)⟩
 have T1:(List.replicate k2 (C1 sp k1)).length <= 1:=by rw [List.length_replicate];omega
 generalize List.replicate k2 (C1 sp k1)=ts0 at T0 T1;subst hN;left;simp only [VV];rw [C4];refine n6 (fun p δ h'=>∃ (ts:List Str) (x5 x6 x7 x8 x9:Option D),δ=[some (.lst (ls.map fun w=>.lst (w.map .str))),some (.int c),some (.bl b),some (.lst (X.map .int)),some (.ref h.length),x5,x6,x7,x8,x9]/\h'=h ++ [.lst (ts.map .str)]/\(∀ s ∈ ts,plain s 400)/\ts.length <= 1 + 2 * p.length/\p.length <= ts.length/\(ts.map wsS).filter (fun w=>decide (w ≠ []))=p.map (·.1)) ⟨ts0,none,none,none,none,none,rfl,rfl,fun s hs=>(T0 s hs).1,by simpa using T1,by simp,Z1 fun s hs=>(T0 s hs).2⟩ (fun _ _ _ _=>Src.ok_nil) ?_ ?_
 ·rintro p ⟨l,k⟩ r δ h' N1 e ⟨ts,x5,x6,x7,x8,x9,rfl,rfl,tp,tl,tg,tw⟩ hN1
  obtain ⟨rfl,hl⟩:=S4 e;have pl:=(List.getElem?_eq_some_iff.mp hl).1;obtain ⟨lne,l14,lg⟩:=ok l (List.mem_of_getElem? hl);have ix:∀ (j:Nat) (i:Int),i=((12 * p.length + j:Nat):Int)->j <= 12->∃ a,atI (X.map D.int) i=some (.int a):=fun j i ei hj=>a7I ei (by right);simp only [VV];refine ⟨trivial,?_⟩;left;obtain ⟨a1,e1⟩:=ix 1 (12 * (0 + (p.length:Int)) + 1) (by right) (by decide);simp only [e1,a2b,VV];obtain ⟨k3,hk3,f3⟩:∃ k:Nat,k < 4/\a1 / 7 % 4 / 2=(k:Int):=⟨(a1 / 7 % 4 / 2).toNat,by right,by right⟩
  rw [f3,Int.toNat_natCast];have r3:=(rp k3 hk3).2;refine ⟨Q1 (by right),⟨by decide,by decide⟩,by decide,⟨by decide,by decide⟩,⟨by right,by right,by decide,by right⟩,?_⟩
  have X0:plain (C1 sp k3) 4/\wds (cl (C1 sp k3))=[]/\a0g (cl (C1 sp k3)):=by
   have:=R9 hk3
   refine ⟨⟨this.1,by right⟩,?_,?_⟩
   ·rw [(rp k3 hk3).1,a3U]
   ·rw [(rp k3 hk3).1];exact a8f k3
  generalize C1 sp k3=t0 at X0;subst hN;left;simp only [VV];rw [C4];refine n6 (fun p2 δ h'=>∃ (x:Str) (x8 x9:Option D),δ=[some (.lst (ls.map fun w=>.lst (w.map .str))),some (.int c),some (.bl b),some (.lst (X.map .int)),some (.ref h.length),some (.int (0 + (p.length:Int))),some (.lst (l.map .str)),some (.str x),x8,x9]/\h'=h ++ [.lst (ts.map .str)]/\plain x (4 + 21 * p2.length)/\wds (cl x)=(p2.map (·.1)).map cl/\a0g (cl x)) ⟨t0,x8,x9,rfl,rfl,X0⟩ (fun _ _ _ _=>Src.ok_nil) ?_ ?_
  ·rintro p2 ⟨w,j⟩ r2 δ h' N2 e2 ⟨x,x8,x9,rfl,rfl,xp,xw,xs⟩ hN2
   obtain ⟨rfl,hj⟩:=S4 e2;have p2l:=(List.getElem?_eq_some_iff.mp hj).1;obtain ⟨w1,w2,w3⟩:=lg w (List.mem_of_getElem? hj);obtain ⟨m8,hm8,f8⟩:=mdN (p2.length:Int) 8 (by decide);obtain ⟨a2,e2⟩:=ix (2 + m8) (12 * (0 + (p.length:Int)) + 2 + (0 + (p2.length:Int)) % 8) (by right) (by right);obtain ⟨k4,hk4,f4⟩:∃ k:Nat,k < 4/\1 <= k/\1 + a2 / 7 % 3=(k:Int):=⟨(1 + a2 / 7 % 3).toNat,by right,by right,by right⟩
   simp only [e2,a2b,VV];obtain ⟨r4c,r4⟩:=rp k4 hk4;have xl2:(x ++ w).length=x.length + w.length:=by rw [<- A6,E7,List.length_append,A6,A6]
   have wl:=w1.2;have xl3:=xp.2;rw [f4.2,Int.toNat_natCast];refine ⟨trivial,by right,Q1 (by right),by decide,⟨by decide,by decide⟩,by decide,⟨by right,by right,by decide,by right⟩,by right,hN2 _ _ ⟨x ++ w ++ C1 sp k4,_,_,rfl,rfl,⟨fun d hd=>?_,?_⟩,?_,?_⟩⟩
   ·rw [E7,E7,r4c] at hd
    rcases List.mem_append.mp hd with hd | hd
    ·rcases List.mem_append.mp hd with hd | hd
     ·exact xp.1 d hd
     ·have:=w3 d hd;omega
    ·have:=(List.mem_replicate.mp hd).2;omega
   ·rw [<- A6,E7,E7,List.length_append,List.length_append,A6,A6,A6,List.length_append,List.length_singleton];omega
   ·rw [E7,E7,r4c,G5,a1m xs w2 (fun z=>by have:=w3 _ z;omega),xw,List.map_append,List.map_append];rfl
   ·rw [E7,r4c];exact a1A f4.1
  rintro δ h' ⟨x,x8,x9,rfl,rfl,xp,xw,xs⟩
  rw [List.length_zipIdx] at xp;rw [show l.zipIdx.map (·.1)=l from List.zipIdx_map_fst _ _] at xw;have ew:wsS x=l:=B7 (by rw [a0C];exact xw);subst hN;left;obtain ⟨a3,e3⟩:=ix 11 (12 * (0 + (p.length:Int)) + 11) (by right) (by decide);simp only [e3,VV];have xl:=xp.2
  have rest:∀ (y:Str),plain y 400->wsS y=l->N [some (.lst (ls.map fun w=>.lst (w.map .str))),some (.int c),some (.bl b),some (.lst (X.map .int)),some (.ref h.length),some (.int (0 + (p.length:Int))),some (.lst (l.map .str)),some (.str y),x8,x9] (h ++ [.lst (ts.map .str)]):=fun y yp yw=>by
   subst hN;left;simp only [o5,p8,List.length_map,VV];refine ⟨by right,?_⟩;obtain ⟨a4,e4⟩:=ix 10 (12 * (0 + (p.length:Int)) + 10) (by right) (by decide);subst hN;simp only [o5,e4,a2b,VV];obtain ⟨k5,hk5,f5⟩:∃ k:Nat,k < 4/\a4 / 49 % 3=(k:Int):=⟨(a4 / 49 % 3).toNat,by right,by right⟩
   obtain ⟨k6,hk6,f6⟩:∃ k:Nat,k < 2/\(if (a4 / 7 % 7 == 3)=true then (1:Int) else 0)=(k:Int):=by
    split
    ·exact ⟨1,by decide,rfl⟩
    ·exact ⟨0,by decide,rfl⟩
   rw [f5,f6,Int.toNat_natCast,Int.toNat_natCast,a1W];have r5:=(rp k5 hk5).2;have es:ts.map D.str ++ [D.str y] ++ (List.replicate k6 (C1 sp k5)).map D.str=(ts ++ [y] ++ List.replicate k6 (C1 sp k5)).map D.str:=by rw [List.map_append,List.map_append];rfl
   have zl:(p ++ [(l,p.length)]).length=p.length + 1:=by simp
   have B5:=R9 hk5;have wf:((List.replicate k6 (C1 sp k5)).map wsS).filter (fun w=>decide (w ≠ []))=[]:=Z1 fun s hs=>by rw [(List.mem_replicate.mp hs).2];exact a6J hk5
   refine ⟨Q1 (by right),⟨by decide,by decide⟩,by decide,⟨by right,by right,by decide,by right⟩,Q1 (by right),⟨by decide,by decide⟩,by decide,⟨by right,by right,by right⟩,by simp;omega,?_⟩;rw [p8,es];refine hN1 _ _ ⟨ts ++ [y] ++ List.replicate k6 (C1 sp k5),_,_,_,_,_,rfl,rfl,fun s hs=>?_,?_,?_,?_⟩
   ·rcases List.mem_append.mp hs with hs | hs
    ·rcases List.mem_append.mp hs with hs | hs
     ·exact tp s hs
     ·rw [List.mem_singleton.mp hs];exact yp
    ·rw [(List.mem_replicate.mp hs).2];exact ⟨B5.1,by right⟩
   ·rw [zl,List.length_append,List.length_append,List.length_replicate,List.length_singleton];omega
   ·rw [zl,List.length_append,List.length_append,List.length_replicate,List.length_singleton];omega
   ·rw [List.map_append,List.map_append,List.filter_append,List.filter_append,tw,wf,List.append_nil,List.map_append]
    congr 1
    show List.filter _ [wsS y]=[l];rw [yw,List.filter_cons_of_pos (by simpa using lne)];rfl
  refine ⟨Q1 (by right),⟨by decide,by decide⟩,by decide,?_⟩;have xok:plain x 400:=⟨xp.1,by right⟩
  refine Q0 (fun _=>⟨by right,rest _ ⟨fun d hd=>xp.1 d (a0q.1 d hd),Nat.le_trans a0q.2 (by right)⟩ ?_⟩) (fun _=>rest x xok ew)
  ·refine B7 ?_;rw [a0C,a1e fun d hd=>b8E (xp.1 d hd).1 (xp.1 d hd).2];exact xw
 ·rintro δ h' ⟨ts,x5,x6,x7,x8,x9,rfl,rfl,tp,tl,tg,tw⟩
  rw [List.length_zipIdx] at tl tg;have ep:ls.zipIdx.map (·.1)=ls:=List.zipIdx_map_fst _ _;subst hN;simp only [b0i,VV];refine ⟨ts,G3 _ _,I0 (n:=400) (fun x hx=>(tp x hx).2) (by right),?_⟩;rw [G6];have jl:=K3 (c:=10) (n:=400) fun x hx=>(tp x hx).2;exact Dr.drop rfl (q ts (fun z=>by rw [z,List.length_nil] at tg;omega) (fun s hs=>a1F (tp s hs)) (by right) (by right) (tw.trans ep))
theorem b8M{f:Addr}{fd:FuncData}(F:Fun K "_law_loose" "_law_loose" b3x f fd)(T:Txt P w K mg)(C_q3:Cal P w K mg base 2 "_law_drawn" ["_law_cell","_law_many","_law_free"] (spD K 3 a4N)):t8 P w K mg base CX0 3 f fd ["_law_rows","_law_cell","_law_free"] (spD K 3 b0P) :=
 B8 (k:=2) (b:=b4l) F sc_q7 (fun cdv A outer s H E hr=>by
  refine c7 ?_ ?_
  ·refine i9 (i:=3) sc_q7.nd rfl (Or.inl rfl) ?_;exact h7 C_q3 (hr.mono (by decide)) rfl (a9 (sv 1) (a9 (d7 j0 (d7 t7 b7 (i7 m6 rfl T.b_len PySem.boot_len (a9 (sv 0) c6))) b7) (a9 (sv 2) c6)))
  refine c7 ?_ ?_
  ·refine i9 (i:=4) ?_ ?_ ?_ ?_
   ·exact sc_q7.nd
   ·exact rfl
   ·exact Or.inl rfl
   exact J4 (a7c (p4 (j5 (a9 (d7 U3 d6 (d7 l5 (d4 d3 (sv 3) b7) b7)) c6))) (d7 l5 (d7 u6 (d4 d3 (sv 3) b7) b7) b7))
  refine c7 ?_ (c8 (i6 (J2 d6 (a9 (sv 4) c6))));refine z4 PassesOwn.never rfl (O3 rfl T.b_enumerate (a9 (sv 0) c6)) ?_ ?_
  ·exact F0 rfl (l4 (h6 (i:=5) sc_q7.nd rfl (Or.inl rfl)) (l4 (h6 (i:=6) sc_q7.nd rfl (Or.inl rfl)) B3))
  refine c7 ?_ ?_
  ·refine i9 (i:=7) sc_q7.nd rfl (Or.inl rfl) ?_;exact d7 U3 d6 (d7 u6 (d7 l5 (d7 u6 (d4 d3 (sv 3) (d7 j0 (d7 t7 b7 (sv 5)) b7)) b7) b7) b7)
  refine c7 ?_ ?_
  ·refine z4 PassesOwn.never rfl (O3 rfl T.b_enumerate (a9 (sv 6) c6)) ?_ ?_
   ·exact F0 rfl (l4 (h6 (i:=8) sc_q7.nd rfl (Or.inl rfl)) (l4 (h6 (i:=9) sc_q7.nd rfl (Or.inl rfl)) B3))
   refine c8 ?_;refine i9 (i:=7) sc_q7.nd rfl (Or.inl rfl) ?_;exact d7 a0X (d7 j0 (sv 7) (sv 9)) (d7 U3 d6 (d7 j0 b7 (d7 l5 (d7 u6 (d4 d3 (sv 3) (d7 j0 (d7 j0 (d7 t7 b7 (sv 5)) b7) (d7 l5 (sv 8) b7))) b7) b7)))
  refine c7 ?_ ?_
  ·refine m7 ?_ ?_ i5
   ·exact g9 (j6 hr.units) (d7 l5 (d7 u6 (d4 d3 (sv 3) (d7 j0 (d7 t7 b7 (sv 5)) b7)) b7) b7) b7
   refine c8 ?_;exact i9 (i:=7) sc_q7.nd rfl (Or.inl rfl) (a5P (sv 7))
  refine c7 (s9 (n9 (sv 4) (a9 (sv 7) c6))) ?_;refine c8 ?_;refine s9 ?_;refine P9 (n:=1) (sv 4) ?_;refine a9 ?_ c6;refine p4 ?_;refine a7c ?_ ?_
  ·refine p4 ?_;refine j5 (n:=1) ?_;refine a9 ?_ c6;exact d7 U3 d6 (d7 l5 (d7 u6 (d4 d3 (sv 3) (d7 j0 (d7 t7 b7 (sv 5)) b7)) b7) b7)
  exact o8 a1Z rfl T.b_int PyProof.Rows.boot_int (a9 (y4 (j6 hr.units) (d7 l5 (d7 u6 (d4 d3 (sv 3) (d7 j0 (d7 t7 b7 (sv 5)) b7)) b7) b7) b7) c6)) b4p
def a2X:DS:=(d9 (j7 (dOp (pEq false) (dOp u3 (n8 Q6 (b0 (b9 0) (b0 (dC (.int 7)) d2))) (dC (.int 2))) (dC (.int 1))) (d5 1))
  (d9 (j7 (n8 a7B (b0 (n8 Q6 (b0 (b9 0) (b0 (dC (.int 6)) d2))) (b0 (dC (.int 6)) (b0 (b9 1) d2)))) (d5 2))
  (d9 (j7 (n8 a7B (b0 (dOp F4 (n8 Q6 (b0 (b9 0) (b0 (dC (.int 7)) d2))) (dC (.int 2))) (b0 (dC (.int 4)) (b0 (b9 1) d2)))) (d5 3))
  (d9 (m5 (F5 (j9 (dOp (pEq false) (dOp u3 (dOp F4 (n8 Q6 (b0 (b9 0) (b0 (dC (.int 0)) d2))) (dC (.int 60))) (dC (.int 8))) (dC (.int 0)))) (j9 (dOp (pIn true) (dOp pIx (b9 2) (dC (.int 0))) (b9 3)))) (j7 (dOp pIx (b9 2) (dC (.int 0))) (b3i (b9 3) (dC (.int 0)))) j2)
  (d9 (j7 (n8 a9z (b0 (b9 0) (b0 (b9 2) (b0 (b9 3) (b0 (A0 (b0 (dC (.int 6)) (b0 (dC (.int 9)) (b0 (dC (.int 24)) (b0 (dC (.int 4)) d2))))) d2))))) (d5 4))
  (d9 (j7 (n8 a3j (b0 (b9 4) d2)) (d5 5))
  (d9 (j7 (S9 (dC (.str "\n")) (b0 (dV (u5 [none] (t9 (b9 5)) (d5 0) y8 (S9 (dC (.str " ")) (b0 (b9 0) d2)))) d2)) (d5 6))
  (d9 (j7 (n8 b0P (b0 (b9 5) (b0 (n8 Q6 (b0 (b9 0) (b0 (dC (.int 8)) d2))) (b0 (b9 1) d2)))) (d5 7))
  (d9 (j7 (n8 X7 (b0 (b9 7) d2)) (d5 8))
  (d9 (m5 (Y6 (dTr (n8 a4A (b0 (b9 8) (b0 (b9 4) d2))))) (j8 (dC (.bl false))) j2)
  (d9 (v8 (a7R (b9 8)))
  (d9 (m5 (dOr (j9 (dOp (pEq true) (n8 a0i (b0 (b9 4) d2)) (b9 6))) (Y6 (dTr (n8 a4A (b0 (n8 X7 (b0 (b9 6) d2)) (b0 (b9 4) d2)))))) (j8 (dC (.bl false))) j2)
  (d9 (j7 (dV (b0 (dOp m3 (dSl (dOp pIx (b9 4) (dC (.int 0))) u9 (D2 (dC (.int 3)))) (A0 (b0 (A0 (b0 (A0 (b0 (dC (.str "to")) (b0 (dC (.int 0)) d2))) d2)) d2))) d2)) (d5 9))
  (d9 (m5 (j9 (dOp (pEq true) (n8 a0i (b0 (b9 9) d2)) (S9 (dC (.str "\n")) (b0 (dV (b0 (S9 (dC (.str " ")) (b0 (dOp pIx (b9 5) (dC (.int 0))) d2)) (b0 (dC (.str "to 1")) d2))) d2)))) (j8 (dC (.bl false))) j2)
  (j8 (F8 (dOp (pEq false) (n8 a0i (b0 (b9 4) d2)) (b9 6)) (n8 a4A (b0 (n8 X7 (b0 (b9 7) d2)) (b0 (b9 4) d2)))))))))))))))))))
theorem b8u{Fs:List Fu}(h:PrG Fs):PrW Fs:=by
 refine ⟨h.l6.2,fun F hF=>?_⟩;have f:=h.ok F hF;refine ⟨f.nm,f.vs,Nat.le_trans f.v4 (by decide),f.gn,f.rl.2,fun r hr=>?_⟩;obtain ⟨a,b,c⟩:=f.ok r hr;have r9:=f.rl.2;refine ⟨a,b,?_⟩
 cases r with
 |ifq x q=>exact Nat.lt_of_lt_of_le c r9
 |to q=>exact Nat.lt_of_lt_of_le c r9
 |_=>exact c
theorem b1g{l:List Str}(ne:l ≠ [])(h:∀ w ∈ l,gw w):wsS (Str.join sp l)=l:=by
 refine B7 ?_;rw [a0C];show wds (cl (Str.join ⟨#[32]⟩ l))=_;rw [D9,a2f,List.filter_eq_self]
 ·intro x hx;obtain ⟨w,hw,rfl⟩:=List.mem_map.mp hx;exact decide_eq_true (h w hw).2.1
 ·intro x hx;obtain ⟨w,hw,rfl⟩:=List.mem_map.mp hx;exact fun z=>by have:=(h w hw).2.2 _ z;omega
theorem a2j{c d:Nat}:∀ {xs:List (List Nat)},d ∈ jn c xs->d=c\/∃ x ∈ xs,d ∈ x
 |[],h=>nomatch h
 |[x],h=>.inr ⟨x,List.mem_cons_self,h⟩
 |x :: y :: r,h=>by
  have h:d ∈ x ++ c :: jn c (y :: r):=h
  rcases List.mem_append.mp h with h | h
  ·exact .inr ⟨x,List.mem_cons_self,h⟩
  rcases List.mem_cons.mp h with h | h
  ·exact .inl h
  ·rcases a2j h with h | ⟨z,hz,h⟩
   ·exact .inl h
   ·exact .inr ⟨z,List.mem_cons_of_mem _ hz,h⟩
theorem W5{l:List Str}(h:∀ w ∈ l,gw w):∀ c ∈ cl (Str.join sp l),32 <= c/\c <= 126:=fun c hc=>by
 have hc:c ∈ cl (Str.join ⟨#[32]⟩ l):=hc;rw [D9] at hc
 rcases a2j hc with rfl | ⟨x,hx,hc⟩
 ·decide
 ·obtain ⟨w,hw,rfl⟩:=List.mem_map.mp hx
  have:=(h w hw).2.2 c hc
  omega
theorem a3V{ts:List Str}(h:∀ t ∈ ts,∀ c ∈ cl t,32 <= c/\c <= 126):PyData.strOk (Str.join nl ts)=true:=(E1 _).mpr fun c hc=>by
 have hc:c ∈ cl (Str.join ⟨#[10]⟩ ts):=hc;rw [D9] at hc
 rcases a2j hc with rfl | ⟨x,hx,hc⟩
 ·decide
 ·obtain ⟨t,ht,rfl⟩:=List.mem_map.mp hx
  have:=h t ht c hc
  omega
theorem b5e{ls:List (List Str)}(h:∀ l ∈ ls,l ≠ []/\l.length <= 14/\∀ w ∈ l,gw w):((ls.map (Str.join sp)).map wsS).filter (fun w=>decide (w ≠ []))=ls:=by
 rw [List.map_map]
 have e:ls.map (wsS ∘ Str.join sp)=ls:=by
  conv=>rhs;rw [<- List.map_id ls]
  exact List.map_congr_left fun l hl=>b1g (h l hl).1 (h l hl).2.2
 rw [e,List.filter_eq_self];exact fun l hl=>decide_eq_true (h l hl).1
def S_q22:DSp:=m4 10 a2X
theorem b0g:∀ ds h Q,S_q22 ds h Q->m4 10 a2X ds h Q:=fun _ _ _ h=>h
theorem b4v:Str.join sp [Str.ofString "to",tx (0 + 1)]=Str.ofString "to 1":=by decide +kernel
def b0O(F:Fu):Fu:={ F with rows:=[.to 0] }
theorem b5L{F:Fu}(nm:isN F.name=true)(vg:NG F.vars)(v10:F.vars.length <= 10)(gn:F.given <= F.vars.length):PrW [b0O F]:=by
 refine ⟨Nat.le_of_ble_eq_true rfl,fun G hG=>?_⟩;rw [List.mem_singleton.mp hG];refine ⟨nm,vg,v10,gn,Nat.le_of_ble_eq_true rfl,fun r hr=>?_⟩;have hr:r ∈ [Rw.to 0]:=hr;rw [List.mem_singleton.mp hr];exact ⟨(fun x hx=>nomatch hx),Nat.le_of_ble_eq_true rfl,(by decide:0 < 9)⟩
theorem b5n(F:Fu):(prL [b0O F]).map (Str.join sp)=[Str.join sp (Str.ofString "function" :: F.name :: F.vars.take F.given),Str.ofString "to 1"]:=by
 rw [<- b4v];rfl
theorem a4C:(∀ c ∈ cl (Str.ofString "to 1"),32 <= c/\c <= 126)/\(Str.ofString "to 1").length <= 300:=by decide +kernel
theorem law_true(ns:List Int)(hl:ns.length <= 63)(hb:∀ x ∈ ns,Builtin.Int.intBits x <= 1048576):S_q22 [.scr (ns.map D.int)] [] (fun v _=>v = .bl true):=by
 unfold S_q22;delta m4 a2X;simp only [VS];left;simp only [VV];refine ⟨ns,7,rfl,hl,hb,by decide,fun r7=>?_⟩;simp only [VV];refine ⟨by decide,?_⟩;generalize (r7 % 2 == 1)=free;subst hN;left;simp only [VV];refine ⟨ns,6,rfl,hl,hb,by decide,fun r6=>?_⟩;simp only [VV];refine ⟨r6,6,free,rfl,by decide,fun ws wl wg wn=>?_⟩;subst hN;left;simp only [VV];refine ⟨ns,7,rfl,hl,hb,by decide,fun r7=>?_⟩;simp only [VV];refine ⟨⟨by decide,by decide⟩,_,4,free,rfl,by decide,fun nm n4 ng nn=>?_⟩;show N [some (.scr (ns.map .int)),some (.bl free),some (.ref 0),some (.ref 1),none,none,none,none,none,none] [O.lst (ws.map .str),O.lst (nm.map .str)];subst hN;left
 have rest:∀ (nm:List Str),nm.length=4->NG nm->nm.Nodup->N [some (.scr (ns.map .int)),some (.bl free),some (.ref 0),some (.ref 1),none,none,none,none,none,none] [O.lst (ws.map .str),O.lst (nm.map .str)]:=fun nm n4 ng nn=>by
  subst hN;left;simp only [VV];refine ⟨ns,ws,nm,0,1,rfl,rfl,rfl,hl,hb,wl,n4,wg,wn,ng,nn,fun P pg=>?_⟩;have pw:=b8u pg;obtain ⟨p60,pk⟩:=a2D pw
  have gR:∀ H:Hh,(H ++ [O.dK (hdK (P.map (·.name)) (P.map (·.given)))] ++ [O.lst (P.map fuD)])[H.length + 1]?=some (O.lst (P.map fuD)):=fun H=>by
   have:=o5 (H ++ [O.dK (hdK (P.map (·.name)) (P.map (·.given)))]) (O.lst (P.map fuD))
   rw [List.length_append,List.length_singleton] at this;exact this
  generalize hH:[O.lst (ws.map D.str),O.lst (nm.map D.str)]=H;subst hN;left;simp only [VV];refine ⟨P,rfl,pw,?_⟩;subst hN;left;simp only [a2b,b0i,List.length_map,VV];refine ⟨by right,?_⟩;have wk:∀ l ∈ prL P,∀ w ∈ l,w.length <= 18:=fun l hl w hw=>((pk l hl).2.2 w hw).1.2
  have jl:∀ x ∈ (prL P).map (Str.join sp),x.length <= 300:=fun x hx=>by
   obtain ⟨l,hl,rfl⟩:=List.mem_map.mp hx
   have:=K3 (c:=32) (wk l hl)
   have:=(pk l hl).2.1
   unfold sp;omega
  refine z6 (fun l:List Str=>D.str (Str.join sp l)) Src.ok_nil none (fun l hl K kk=>?_) ?_
  ·simp only [VV];refine ⟨l,rfl,I0 (wk l hl) (by have:=(pk l hl).2.1;omega),?_⟩;rw [G6];exact kk
  refine ⟨(prL P).map (Str.join sp),by rw [List.map_map];rfl,I0 (n:=300) jl (by rw [List.length_map];omega),?_⟩;rw [G6];generalize hT:Str.join nl ((prL P).map (Str.join sp))=T;subst hN;left;simp only [VV];refine ⟨ns,8,rfl,hl,hb,by decide,fun r8=>?_⟩;simp only [VV]
  have pl1:1 <= (prL P).length:=by
   have:=pg.l6
   unfold prL
   cases P with
   |nil=>simp at this
   |cons F r=>unfold fW;simp
  refine ⟨prL P,r8,free,rfl,pl1,p60,pk,fun ts tne tok tlen tn tw=>?_⟩;generalize hL:Str.join ⟨#[10]⟩ ts=L;subst hN;left;simp only [VV];refine ⟨P,ts,by rw [hL],pg,tne,tok,tlen,tn,tw,?_⟩;subst hN;left;simp only [VV];refine ⟨_,P,rfl,?_,pw,?_⟩
  ·exact gR H
  simp only [VV];subst hN;left;simp only [gR,VV];generalize (List.set (H ++ [O.dK (hdK (P.map (·.name)) (P.map (·.given)))] ++ [O.lst (P.map fuD)]) (H.length + 1) (O.lst []))=H2;subst hN;left;simp only [VV];refine ⟨P,rfl,pw,?_⟩;rw [hT]
  have tl:∀ t ∈ (prL P).map (Str.join sp),∀ c ∈ cl t,32 <= c/\c <= 126:=fun t ht=>by
   obtain ⟨l,hl,rfl⟩:=List.mem_map.mp ht;exact W5 (pk l hl).2.2
  have sT:PyData.strOk T=true:=by rw [<- hT];exact a3V tl
  have eT:(T == T)=true:=beq_self_eq_true _
  have jT:(Str.join ⟨#[10]⟩ ((prL P).map (Str.join sp))).length <= 1000000:=by
   have:=K3 (c:=10) jl
   rw [List.length_map] at this;omega
  have readT:∀ (H:Hh) (Q:DK),Q (.ref (H.length + 1)) (H ++ [O.dK (hdK (P.map (·.name)) (P.map (·.given)))] ++ [O.lst (P.map fuD)])->X7 [.str T] H Q:=fun H Q q =>
   ⟨P,(prL P).map (Str.join sp),by rw [<- hT];rfl,pg,fun z=>by rw [List.map_eq_nil_iff] at z;rw [z] at pl1;exact absurd pl1 (by decide),fun t ht=>a1F (n:=300) ⟨tl t ht,jl t ht⟩,jT,by rw [List.length_map];omega,b5e pk,q⟩
  simp only [sT,eT,VV];refine readT H2 _ ?_;refine ⟨_,P,rfl,gR H2,pw,?_⟩;simp only [VV];generalize H2 ++ [O.dK (hdK (P.map (·.name)) (P.map (·.given)))] ++ [O.lst (P.map fuD)]=H3
  obtain ⟨F,Pr,hP⟩:∃ a r,P=a :: r:=by
   have:=pg.l6
   cases P with
   |nil=>simp at this
   |cons a r=>exact ⟨a,r,rfl⟩
  have fF:=pw.2 F (by rw [hP];exact List.mem_cons_self);have aP:atI (P.map fuD) 0=some (fuD F):=by rw [hP];exact E6 _ _
  have aR:atI ((prL P).map fun w=>D.lst (w.map .str)) 0=some (.lst ((Str.ofString "function" :: F.name :: F.vars.take F.given).map .str)):=by
   rw [hP];exact E6 _ _
  have c3:∀ a b c d:D,E8 [a,b,c,d] none (some 3)=[a,b,c]:=fun a b c d=>V5 [a,b,c,d] 3 (Nat.le_of_ble_eq_true rfl)
  have gW:∀ w ∈ Str.ofString "function" :: F.name :: F.vars.take F.given,gw w/\w.length <= 18:=fun w hw=>by
   have:gw w:=(pk (Str.ofString "function" :: F.name :: F.vars.take F.given) (by rw [hP];exact List.mem_cons_self)).2.2 w hw
   exact ⟨this,this.1.2⟩
  have lW:(Str.ofString "function" :: F.name :: F.vars.take F.given).length <= 14:=(pk (Str.ofString "function" :: F.name :: F.vars.take F.given) (by rw [hP];exact List.mem_cons_self)).2.1;subst hN;left;simp only [aP,fuD,c3,VV];refine ⟨by simp,by decide,?_⟩;show N [some (D.scr (List.map D.int ns)),some (D.bl free),some (D.ref 0),some (D.ref 1),some (D.lst (List.map fuD P)),some (D.lst (List.map (fun w=>D.lst (List.map D.str w)) (prL P))),some (D.str T),some (D.str L),some (D.ref (H.length + 1)),some (.lst ([b0O F].map fuD))] H3;subst hN;left;simp only [VV];refine ⟨[b0O F],rfl,b5L fF.1 fF.2.1 fF.2.2.1 fF.2.2.2.1,?_⟩;rw [b5n];simp only [aR,a2b,b0i,VV];refine ⟨Str.ofString "function" :: F.name :: F.vars.take F.given,rfl,I0 (fun w hw=>(gW w hw).2) (by right),?_⟩;rw [G6]
  have l2:∀ t ∈ [Str.join sp (Str.ofString "function" :: F.name :: F.vars.take F.given),Str.ofString "to 1"],(∀ c ∈ cl t,32 <= c/\c <= 126)/\t.length <= 300:=fun t ht=>by
   rcases List.mem_cons.mp ht with rfl | ht
   ·refine ⟨W5 fun w hw=>(gW w hw).1,?_⟩
    have:=K3 (c:=32) fun w hw=>(gW w hw).2
    unfold sp;omega
   ·rw [List.mem_singleton.mp ht];exact a4C
  refine ⟨[Str.join sp (Str.ofString "function" :: F.name :: F.vars.take F.given),Str.ofString "to 1"],rfl,I0 (n:=300) (fun t ht=>(l2 t ht).2) (Nat.le_of_ble_eq_true rfl),?_⟩;rw [G6];have sU:=a3V fun t ht=>(l2 t ht).1;generalize Str.join nl [Str.join sp (Str.ofString "function" :: F.name :: F.vars.take F.given),Str.ofString "to 1"]=U at sU;have eU:(U == U)=true:=beq_self_eq_true _;simp only [sU,eU,VV];subst hN;simp only [VV];refine ⟨P,rfl,pw,?_⟩;rw [hT];simp only [sT,eT,VV];refine ⟨P,ts,by rw [hL],pg,tne,tok,tlen,tn,tw,?_⟩;exact ⟨_,P,rfl,gR H3,pw,rfl⟩
 simp only [VV];refine ⟨ns,0,rfl,hl,hb,by decide,fun r0=>?_⟩;simp only [VV];refine ⟨⟨by decide,by decide⟩,by decide,?_⟩;refine Q0 (fun _=>?_) (fun _=>rest nm n4 ng nn)
 obtain ⟨w0,wr,rfl⟩:∃ a r,ws=a :: r:=by
  cases ws with
  |nil=>cases wl
  |cons a r=>exact ⟨a,r,rfl⟩
 obtain ⟨n0,nr,rfl⟩:∃ a r,nm=a :: r:=by
  cases nm with
  |nil=>cases n4
  |cons a r=>exact ⟨a,r,rfl⟩
 have i0:∀ x,ixD [O.lst (D.str w0 :: wr.map D.str),x] (.ref 0) (.int 0)=some (.str w0):=fun x=>by rw [a0a (D3 rfl)];exact E6 _ _
 have s1:∀ x,B6 [x,O.lst (D.str n0 :: nr.map D.str)] (.ref 1)=some ((n0 :: nr).map .str):=fun _=>rfl;have iN:ixN ((n0 :: nr).map D.str).length 0=some 0:=by rw [List.length_map,n4];rfl
 simp only [i0,s1,iN,VV];rw [show D.str n0 :: nr.map D.str=(n0 :: nr).map D.str from rfl,a0Z];refine ⟨by rw [a0e];rfl,?_⟩
 by_cases z:w0 ∈ n0 :: nr
 ·rw [decide_eq_true z];exact rest _ n4 ng nn
 ·rw [decide_eq_false z];refine rest (w0 :: nr) n4 (fun v hv=>?_) ?_
  ·rcases List.mem_cons.mp hv with rfl | hv
   ·exact wg _ List.mem_cons_self
   ·exact ng v (List.mem_cons_of_mem _ hv)
  ·exact List.nodup_cons.mpr ⟨fun y=>z (List.mem_cons_of_mem _ y),(List.nodup_cons.mp nn).2⟩
theorem b3z{f:Addr}{fd:FuncData}(F:Fun K "law" "law" N6 f fd)(T:Txt P w K mg)(C_q1:Cal P w K mg base 1 "_law_cell_at" ["_law_script","_law_k"] (spD K 2 Q6))(C_q8:Cal P w K mg base 2 "_law_names" ["_law_cell","_law_many","_law_free"] (spD K 3 a7B))(C_q9:Cal P w K mg base 4 "_law_program" ["_law_script","_law_words","_law_names_here","_law_sizes"] (spD K 4 a9z))(C_q14:Cal P w K mg base 2 "_law_words_of" ["_law_program_here"] (spD K 1 a3j))(C_q7:Cal P w K mg base 3 "_law_loose" ["_law_rows","_law_cell","_law_free"] (spD K 3 b0P))(C_q26:Cal P w K mg base 6 "read" ["text"] (spD K 1 X7))(C_q5:Cal P w K mg base 1 "_law_is_program" ["_law_found","_law_due"] (spD K 2 a4A))(C_q35:Cal P w K mg base 3 "written" ["program"] (spD K 1 a0i)):t8 P w K mg base CX0 7 f fd ["_law_script"] (spD K 1 S_q22) :=
 x0 (k:=6) (b:=a2X) F sc_q22 (fun cdv A outer s H E hr=>by
  refine c7 ?_ ?_
  ·refine i9 (i:=1) sc_q22.nd rfl (Or.inl rfl) ?_;exact y4 (j6 hr.units) (d7 l5 (h7 C_q1 (hr.mono (by decide)) rfl (a9 (sv 0) (a9 b7 c6))) b7) b7
  refine c7 ?_ ?_
  ·refine i9 (i:=2) sc_q22.nd rfl (Or.inl rfl) ?_;exact h7 C_q8 (hr.mono (by decide)) rfl (a9 (h7 C_q1 (hr.mono (by decide)) rfl (a9 (sv 0) (a9 b7 c6))) (a9 b7 (a9 (sv 1) c6)))
  refine c7 ?_ ?_
  ·refine i9 (i:=3) sc_q22.nd rfl (Or.inl rfl) ?_;exact h7 C_q8 (hr.mono (by decide)) rfl (a9 (d7 u6 (h7 C_q1 (hr.mono (by decide)) rfl (a9 (sv 0) (a9 b7 c6))) b7) (a9 b7 (a9 (sv 1) c6)))
  refine c7 ?_ ?_
  ·refine m7 ?_ (c8 (b7C (d4 d3 (sv 2) b7) (a9L (sv 3) b7))) i5;exact F7 (u8 (g9 (j6 hr.units) (d7 l5 (d7 u6 (h7 C_q1 (hr.mono (by decide)) rfl (a9 (sv 0) (a9 b7 c6))) b7) b7) b7) (y7 (g9 P6 (d4 d3 (sv 2) b7) (sv 3) rfl)))
  refine c7 ?_ ?_
  ·refine i9 (i:=4) ?_ ?_ ?_ ?_
   ·exact sc_q22.nd
   ·exact rfl
   ·exact Or.inl rfl
   exact h7 C_q9 (hr.mono (by decide)) rfl (a9 (sv 0) (a9 (sv 2) (a9 (sv 3) (a9 (o6 (a9 b7 (a9 b7 (a9 b7 (a9 b7 c6))))) c6))))
  refine c7 ?_ ?_
  ·exact i9 (i:=5) sc_q22.nd rfl (Or.inl rfl) (h7 C_q14 (hr.mono (by decide)) rfl (a9 (sv 4) c6))
  refine c7 ?_ ?_
  ·refine i9 (i:=6) sc_q22.nd rfl (Or.inl rfl) ?_;exact J2 d6 (a9 (p4 (p9 rfl (N':= ["_law_row"]) (js:=[none]) ⟨rfl,by decide +kernel,rfl,rfl,rfl⟩ (o9 (sv 5)) (fun s0 H0 fp=>⟨(h6 (i:=0) (show (["_law_row"]:List Str).Nodup by decide +kernel) rfl (Or.inl rfl)),u2,(J2 d6 (a9 (sv 0) c6))⟩))) c6)
  refine c7 ?_ ?_
  ·refine i9 (i:=7) sc_q22.nd rfl (Or.inl rfl) ?_;exact h7 C_q7 (hr.mono (by decide)) rfl (a9 (sv 5) (a9 (h7 C_q1 (hr.mono (by decide)) rfl (a9 (sv 0) (a9 b7 c6))) (a9 (sv 1) c6)))
  refine c7 ?_ ?_
  ·exact i9 (i:=8) sc_q22.nd rfl (Or.inl rfl) (h7 C_q26 (hr.mono (by decide)) rfl (a9 (sv 7) c6))
  refine c7 ?_ ?_
  ·refine m7 ?_ (c8 (i6 T3)) i5;exact J0 (o0 (h7 C_q5 (hr.mono (by decide)) rfl (a9 (sv 8) (a9 (sv 4) c6))))
  refine c7 (s9 (a6C (sv 8))) ?_;refine c7 ?_ ?_
  ·refine m7 ?_ (c8 (i6 T3)) i5;exact F7 (S5 (g9 (a1v hr.units) (h7 C_q35 (hr.mono (by decide)) rfl (a9 (sv 4) c6)) (sv 6)) (M6 (J0 (o0 (h7 C_q5 (hr.mono (by decide)) rfl (a9 (h7 C_q26 (hr.mono (by decide)) rfl (a9 (sv 6) c6)) (a9 (sv 4) c6)))))))
  refine c7 ?_ ?_
  ·refine i9 (i:=9) ?_ ?_ ?_ ?_
   ·exact sc_q22.nd
   ·exact rfl
   ·exact Or.inl rfl
   refine p4 ?_;refine j5 (n:=1) ?_;refine a9 ?_ c6;exact d7 j0 (G2 (d4 d3 (sv 4) b7) y0 (w9 b7)) (o6 (a9 (o6 (a9 (o6 (a9 d6 (a9 b7 c6))) c6)) c6))
  refine c7 ?_ ?_
  ·refine m7 ?_ (c8 (i6 T3)) i5;exact g9 (a1v hr.units) (h7 C_q35 (hr.mono (by decide)) rfl (a9 (sv 9) c6)) (J2 d6 (a9 (p4 (j5 (a9 (J2 d6 (a9 (d4 d3 (sv 5) b7) c6)) (a9 d6 c6)))) c6))
  refine c8 ?_;refine i6 ?_;exact C0 (y4 (j6 hr.units) (h7 C_q35 (hr.mono (by decide)) rfl (a9 (sv 4) c6)) (sv 6)) (X8 (h7 C_q5 (hr.mono (by decide)) rfl (a9 (h7 C_q26 (hr.mono (by decide)) rfl (a9 (sv 7) c6)) (a9 (sv 4) c6))))) b0g
end
theorem C7{α:Type}{n:Nat}{us:List α}(h:us.length=n + 1):∃ a t,us=a :: t/\t.length=n:=by
 cases us with
 |nil=>cases h
 |cons a t=>exact ⟨a,t,rfl,Nat.succ.inj h⟩
theorem a1p{α:Type}{us:List α}(h:us.length=0):us=[]:=List.length_eq_zero_iff.mp h
theorem ln1{F:FuncData}{ps:List Str}{us:List Value}(h:us.length=1)(k:∀ a,bindArgs F ⟨[a],[]⟩=pure (ps.zip [a])):bindArgs F ⟨us,[]⟩=pure (ps.zip us):=by
 obtain ⟨a,us1,rfl,h1⟩:=C7 h
 cases a1p h1
 exact k a
theorem ln2{F:FuncData}{ps:List Str}{us:List Value}(h:us.length=2)(k:∀ a b,bindArgs F ⟨[a,b],[]⟩=pure (ps.zip [a,b])):bindArgs F ⟨us,[]⟩=pure (ps.zip us):=by
 obtain ⟨a,us1,rfl,h1⟩:=C7 h;obtain ⟨b,us2,rfl,h2⟩:=C7 h1
 cases a1p h2
 exact k a b
theorem ln3{F:FuncData}{ps:List Str}{us:List Value}(h:us.length=3)(k:∀ a b c,bindArgs F ⟨[a,b,c],[]⟩=pure (ps.zip [a,b,c])):bindArgs F ⟨us,[]⟩=pure (ps.zip us):=by
 obtain ⟨a,us1,rfl,h1⟩:=C7 h;obtain ⟨b,us2,rfl,h2⟩:=C7 h1;obtain ⟨c,us3,rfl,h3⟩:=C7 h2
 cases a1p h3
 exact k a b c
theorem ln4{F:FuncData}{ps:List Str}{us:List Value}(h:us.length=4)(k:∀ a b c d,bindArgs F ⟨[a,b,c,d],[]⟩=pure (ps.zip [a,b,c,d])):bindArgs F ⟨us,[]⟩=pure (ps.zip us):=by
 obtain ⟨a,us1,rfl,h1⟩:=C7 h;obtain ⟨b,us2,rfl,h2⟩:=C7 h1;obtain ⟨c,us3,rfl,h3⟩:=C7 h2;obtain ⟨d,us4,rfl,h4⟩:=C7 h3
 cases a1p h4
 exact k a b c d
theorem ln5{F:FuncData}{ps:List Str}{us:List Value}(h:us.length=5)(k:∀ a b c d e,bindArgs F ⟨[a,b,c,d,e],[]⟩=pure (ps.zip [a,b,c,d,e])):bindArgs F ⟨us,[]⟩=pure (ps.zip us):=by
 obtain ⟨a,us1,rfl,h1⟩:=C7 h;obtain ⟨b,us2,rfl,h2⟩:=C7 h1;obtain ⟨c,us3,rfl,h3⟩:=C7 h2;obtain ⟨d,us4,rfl,h4⟩:=C7 h3;obtain ⟨e,us5,rfl,h5⟩:=C7 h4
 cases a1p h5
 exact k a b c d e
def Gt(K:PySem.W.Frag)(x:Str)(st:Stmt):Prop:=∃ (a:Addr) (an:Option Addr) (kV dc pm cd ct:Value),PySem.W.nsIn K mainGlobals x=some (some (.ref a))/\Fun K x x st a (PySem.W.fnOf x x (E2 st) (A9 st) (g8 st) .none kV dc pm an cd ct)/\PySem.W.keepIn K (.ref a)=true
theorem gt_mk{K:PySem.W.Frag}{x:Str}{st:Stmt}{a:Addr}{od an:Option Addr}{sl:Array (Option Value)}{oc kV dc pm cd ct:Value}(e:PySem.W.nsIn K mainGlobals x=some (some (.ref a)))(l:K.lookup a=some ⟨oc,od,.func (PySem.W.fnOf x x (E2 st) (A9 st) (g8 st) .none kV dc pm an cd ct),sl⟩)(c:PySem.W.codeIn K cd x=true)(k:PySem.W.keepIn K (.ref a)=true):Gt K x st:=⟨a,an,kV,dc,pm,cd,ct,e,a7o (st:=st) l c k,k⟩
theorem Gt.cal{P:Program}{w:World}{K:PySem.W.Frag}{mg:Str->Option Value}{h base:Heap}{x:Str}{st:Stmt}{k:Nat}{ps:List Str}{S:Sp}(g:Gt K x st)(X:K.In h)(G:h.Ns mainGlobals mg)(ok:∀ {f fd},Fun K x x st f fd->t8 P w K mg base CX0 k f fd ps S)(hb:∀ {an kV dc pm cd ct} (us:List Value),us.length=ps.length->bindArgs (PySem.W.fnOf x x (E2 st) (A9 st) (g8 st) .none kV dc pm an cd ct) ⟨us,[]⟩=pure (ps.zip us)):Cal P w K mg base k x ps S:=by
 obtain ⟨a,an,kV,dc,pm,cd,ct,e,F,kp⟩:=g;exact ⟨a,_,ok F,PySem.W.mg_of X G e,kp,.all fun us hl=>hb us hl⟩
theorem all_mk{l:PySem.W.OpenLaw}{w:World}{K:PySem.W.Frag}{h:Heap}{mg:Str->Option Value}{fa a_q22:Addr}(X:K.In h)(G:h.Ns mainGlobals mg)(hfa:mg "law" = some (.ref fa))
  {od_q22 an_q22:Option Addr} {sl_q22:Array (Option Value)} {oc_q22 kV_q22 dc_q22 pm_q22 cd_q22 ct_q22:Value}
  (g_q20:Gt K "is_name" a5G)
  (g_q24:Gt K "number_of" a8a)
  (g_q15:Gt K "all_between" a7q)
  (g_q28:Gt K "sort_of" a7w)
  (g_q30:Gt K "sort_of_value" a6N)
  (g_q29:Gt K "sort_of_deed" a6h)
  (g_q32:Gt K "variables_in" a8n)
  (g_q26:Gt K "read" a6T)
  (g_q23:Gt K "lines_of" a8t)
  (g_q25:Gt K "parts_of" a7N)
  (g_q19:Gt K "heads_of" a5Z)
  (g_q16:Gt K "check_head" a5S)
  (g_q18:Gt K "function_of" a6w)
  (g_q17:Gt K "edges_of" a6R)
  (g_q33:Gt K "with_more" a8q)
  (g_q21:Gt K "is_there" a7U)
  (g_q27:Gt K "row_of" a8h)
  (g_q35:Gt K "written" a7V)
  (g_q34:Gt K "words_of" a8p)
  (g_q31:Gt K "value_words" a8u)
  (g_q1:Gt K "_law_cell_at" b6B)
  (g_q2:Gt K "_law_cells" b6M)
  (g_q13:Gt K "_law_stream" a7X)
  (g_q3:Gt K "_law_drawn" b4x)
  (g_q12:Gt K "_law_spelt" a6f)
  (g_q8:Gt K "_law_names" b3y)
  (g_q0:Gt K "_law_bodies" b3D)
  (g_q4:Gt K "_law_drawn_row" b6n)
  (g_q6:Gt K "_law_labels" b6s)
  (g_q10:Gt K "_law_renumbered" a6i)
  (g_q9:Gt K "_law_program" b4q)
  (g_q11:Gt K "_law_row_words" a6s)
  (g_q14:Gt K "_law_words_of" a6S)
  (g_q7:Gt K "_law_loose" b3x)
  (g_q5:Gt K "_law_is_program" b6j)
  (e_q22:PySem.W.nsIn K mainGlobals "law" = some (some (.ref a_q22))) (l_q22:K.lookup a_q22=some ⟨oc_q22,od_q22,.func (PySem.W.fnOf "law" "law" (E2 N6) (A9 N6) (g8 N6) .none kV_q22 dc_q22 pm_q22 an_q22 cd_q22 ct_q22),sl_q22⟩) (c_q22:PySem.W.codeIn K cd_q22 "law" = true) (k_q22:PySem.W.keepIn K (.ref a_q22)=true)
  (z_all:PySem.W.nsIn K mainGlobals "all" = some none)
  (z_bool:PySem.W.nsIn K mainGlobals "bool" = some none)
  (z_enumerate:PySem.W.nsIn K mainGlobals "enumerate" = some none)
  (z_int:PySem.W.nsIn K mainGlobals "int" = some none)
  (z_isinstance:PySem.W.nsIn K mainGlobals "isinstance" = some none)
  (z_len:PySem.W.nsIn K mainGlobals "len" = some none)
  (z_list:PySem.W.nsIn K mainGlobals "list" = some none)
  (z_min:PySem.W.nsIn K mainGlobals "min" = some none)
  (z_range:PySem.W.nsIn K mainGlobals "range" = some none)
  (z_set:PySem.W.nsIn K mainGlobals "set" = some none)
  (z_str:PySem.W.nsIn K mainGlobals "str" = some none)
  (z_sum:PySem.W.nsIn K mainGlobals "sum" = some none)
  (z_tuple:PySem.W.nsIn K mainGlobals "tuple" = some none)
  {da_KEPT_WORDS:Addr} {do_KEPT_WORDS:Obj} {dn_KEPT_WORDS:Nat} {dk_KEPT_WORDS_0 dk_KEPT_WORDS_1 dk_KEPT_WORDS_2 dk_KEPT_WORDS_3 dk_KEPT_WORDS_4 dk_KEPT_WORDS_5 dk_KEPT_WORDS_6 dk_KEPT_WORDS_7 dk_KEPT_WORDS_8:Tok}
  (y_KEPT_WORDS:PySem.W.nsIn K mainGlobals "KEPT_WORDS" = some (some (.ref da_KEPT_WORDS))) (d_KEPT_WORDS:K.lookup da_KEPT_WORDS=some do_KEPT_WORDS) (ds_KEPT_WORDS:do_KEPT_WORDS.data = .seq #[.str "function" dk_KEPT_WORDS_0,.str "call" dk_KEPT_WORDS_1,.str "dye" dk_KEPT_WORDS_2,.str "wash" dk_KEPT_WORDS_3,.str "if" dk_KEPT_WORDS_4,.str "to" dk_KEPT_WORDS_5,.str "return" dk_KEPT_WORDS_6,.str "back" dk_KEPT_WORDS_7,.str "here" dk_KEPT_WORDS_8] dn_KEPT_WORDS) (dz_KEPT_WORDS:do_KEPT_WORDS.cls = .type "tuple")
  {tk_MOST_EDGES:Tok} (y_MOST_EDGES:PySem.W.nsIn K mainGlobals "MOST_EDGES" = some (some (.int 24 tk_MOST_EDGES)))
  {tk_MOST_FIGURES:Tok} (y_MOST_FIGURES:PySem.W.nsIn K mainGlobals "MOST_FIGURES" = some (some (.int 18 tk_MOST_FIGURES)))
  {tk_MOST_FUNCTIONS:Tok} (y_MOST_FUNCTIONS:PySem.W.nsIn K mainGlobals "MOST_FUNCTIONS" = some (some (.int 6 tk_MOST_FUNCTIONS)))
  {tk_MOST_ROWS:Tok} (y_MOST_ROWS:PySem.W.nsIn K mainGlobals "MOST_ROWS" = some (some (.int 9 tk_MOST_ROWS)))
  {tk_MOST_SIGNS:Tok} (y_MOST_SIGNS:PySem.W.nsIn K mainGlobals "MOST_SIGNS" = some (some (.int 8 tk_MOST_SIGNS)))
  {tk_MOST_VARIABLES:Tok} (y_MOST_VARIABLES:PySem.W.nsIn K mainGlobals "MOST_VARIABLES" = some (some (.int 4 tk_MOST_VARIABLES)))
  {da_OPS:Addr} {do_OPS:Obj} {dn_OPS:Nat} {dk_OPS_0 dk_OPS_1 dk_OPS_2:Tok}
  (y_OPS:PySem.W.nsIn K mainGlobals "OPS" = some (some (.ref da_OPS))) (d_OPS:K.lookup da_OPS=some do_OPS) (ds_OPS:do_OPS.data = .seq #[.str "+" dk_OPS_0,.str "-" dk_OPS_1,.str "*" dk_OPS_2] dn_OPS) (dz_OPS:do_OPS.cls = .type "tuple")
  : ∃ fd:FuncData,(∀ (s:Shared) (v:Value),BindsTo s fd ⟨[v],[]⟩ [("_law_script",v)])/\∀ base:Heap,K.In base->base.Ns mainGlobals mg->t8 l.prog w K mg base CX0 7 fa fd ["_law_script"] (spD K 1 S_q22):=by
 have e:=hfa.symm.trans (PySem.W.mg_of X G e_q22);cases e;have T:Txt l.prog w K mg:=⟨PySem.W.mg_none_of X G z_all,PySem.W.mg_none_of X G z_bool,PySem.W.mg_none_of X G z_enumerate,PySem.W.mg_none_of X G z_int,PySem.W.mg_none_of X G z_isinstance,PySem.W.mg_none_of X G z_len,PySem.W.mg_none_of X G z_list,PySem.W.mg_none_of X G z_min,PySem.W.mg_none_of X G z_range,PySem.W.mg_none_of X G z_set,PySem.W.mg_none_of X G z_str,PySem.W.mg_none_of X G z_sum,PySem.W.mg_none_of X G z_tuple,⟨_,PySem.W.mg_of X G y_KEPT_WORDS,⟨_,_,_,d_KEPT_WORDS,dz_KEPT_WORDS,ds_KEPT_WORDS,(show (LE.le (α:=Nat) _ _) by simp [PySem.sizeLine]),(.cons ⟨_,rfl⟩ (.cons ⟨_,rfl⟩ (.cons ⟨_,rfl⟩ (.cons ⟨_,rfl⟩ (.cons ⟨_,rfl⟩ (.cons ⟨_,rfl⟩ (.cons ⟨_,rfl⟩ (.cons ⟨_,rfl⟩ (.cons ⟨_,rfl⟩ .nil)))))))))⟩⟩,⟨_,PySem.W.mg_of X G y_MOST_EDGES⟩,⟨_,PySem.W.mg_of X G y_MOST_FIGURES⟩,⟨_,PySem.W.mg_of X G y_MOST_FUNCTIONS⟩,⟨_,PySem.W.mg_of X G y_MOST_ROWS⟩,⟨_,PySem.W.mg_of X G y_MOST_SIGNS⟩,⟨_,PySem.W.mg_of X G y_MOST_VARIABLES⟩,⟨_,PySem.W.mg_of X G y_OPS,⟨_,_,_,d_OPS,dz_OPS,ds_OPS,(show (LE.le (α:=Nat) _ _) by simp [PySem.sizeLine]),(.cons ⟨_,rfl⟩ (.cons ⟨_,rfl⟩ (.cons ⟨_,rfl⟩ .nil)))⟩⟩⟩
 have F_q22:=a7o (st:=N6) l_q22 c_q22 k_q22;refine ⟨PySem.W.fnOf "law" "law" (E2 N6) (A9 N6) (g8 N6) .none kV_q22 dc_q22 pm_q22 an_q22 cd_q22 ct_q22,fun s v=>.of_eq rfl,fun base _ _=>?_⟩;have C_q15:=g_q15.cal X G (fun F=>b5H (base:=base) F T ) fun _ hl=>ln3 hl fun _ _ _=>rfl;have C_q17:=g_q17.cal X G (fun F=>b6z (base:=base) F T ) fun _ hl=>ln1 hl fun _=>rfl;have C_q20:=g_q20.cal X G (fun F=>b6c (base:=base) F T C_q15) fun _ hl=>ln1 hl fun _=>rfl;have C_q24:=g_q24.cal X G (fun F=>b6F (base:=base) F T C_q15) fun _ hl=>ln1 hl fun _=>rfl;have C_q30:=g_q30.cal X G (fun F=>b3J (base:=base) F T C_q24 C_q20) fun _ hl=>ln1 hl fun _=>rfl;have C_q29:=g_q29.cal X G (fun F=>b4Y (base:=base) F T C_q20 C_q24) fun _ hl=>ln1 hl fun _=>rfl;have C_q28:=g_q28.cal X G (fun F=>b3A (base:=base) F T C_q20 C_q30 C_q29) fun _ hl=>ln1 hl fun _=>rfl;have C_q33:=g_q33.cal X G (fun F=>b5a (base:=base) F T ) fun _ hl=>ln2 hl fun _ _=>rfl;have C_q32:=g_q32.cal X G (fun F=>b5C (base:=base) F T C_q20) fun _ hl=>ln2 hl fun _ _=>rfl;have C_q21:=g_q21.cal X G (fun F=>b6g (base:=base) F T C_q24) fun _ hl=>ln4 hl fun _ _ _ _=>rfl;have C_q23:=g_q23.cal X G (fun F=>b6J (base:=base) F T ) fun _ hl=>ln1 hl fun _=>rfl;have C_q25:=g_q25.cal X G (fun F=>b5Z (base:=base) F T ) fun _ hl=>ln1 hl fun _=>rfl;have C_q19:=g_q19.cal X G (fun F=>b3L (base:=base) F T ) fun _ hl=>ln1 hl fun _=>rfl;have C_q16:=g_q16.cal X G (fun F=>b6N (base:=base) F T C_q20) fun _ hl=>ln3 hl fun _ _ _=>rfl;have C_q27:=g_q27.cal X G (fun F=>b5t (base:=base) F T C_q32 C_q24) fun _ hl=>ln4 hl fun _ _ _ _=>rfl;have C_q18:=g_q18.cal X G (fun F=>b5G (base:=base) F T C_q28 C_q17 C_q32 C_q33 C_q21 C_q27) fun _ hl=>ln3 hl fun _ _ _=>rfl;have C_q26:=g_q26.cal X G (fun F=>b6P (base:=base) F T C_q23 C_q25 C_q19 C_q16 C_q18 C_q17) fun _ hl=>ln1 hl fun _=>rfl;have C_q31:=g_q31.cal X G (fun F=>b4g (base:=base) F T ) fun _ hl=>ln3 hl fun _ _ _=>rfl;have C_q34:=g_q34.cal X G (fun F=>b3V (base:=base) F T C_q31) fun _ hl=>ln3 hl fun _ _ _=>rfl;have C_q35:=g_q35.cal X G (fun F=>b4A (base:=base) F T C_q34) fun _ hl=>ln1 hl fun _=>rfl;have C_q11:=g_q11.cal X G (fun F=>b4z (base:=base) F T ) fun _ hl=>ln3 hl fun _ _ _=>rfl;have C_q14:=g_q14.cal X G (fun F=>b5h (base:=base) F T C_q11) fun _ hl=>ln1 hl fun _=>rfl;have C_q5:=g_q5.cal X G (fun F=>b7r (base:=base) F T ) fun _ hl=>ln2 hl fun _ _=>rfl;have C_q1:=g_q1.cal X G (fun F=>b7K (base:=base) F T ) fun _ hl=>ln2 hl fun _ _=>rfl;have C_q13:=g_q13.cal X G (fun F=>b3K (base:=base) F T ) fun _ hl=>ln2 hl fun _ _=>rfl;have C_q6:=g_q6.cal X G (fun F=>b8k (base:=base) F T ) fun _ hl=>ln1 hl fun _=>rfl;have C_q2:=g_q2.cal X G (fun F=>b8Q (base:=base) F T C_q1) fun _ hl=>ln3 hl fun _ _ _=>rfl;have C_q3:=g_q3.cal X G (fun F=>b7S (base:=base) F T C_q13) fun _ hl=>ln3 hl fun _ _ _=>rfl;have C_q10:=g_q10.cal X G (fun F=>b4m (base:=base) F T ) fun _ hl=>ln2 hl fun _ _=>rfl;have C_q4:=g_q4.cal X G (fun F=>b7J (base:=base) F T C_q3) fun _ hl=>ln5 hl fun _ _ _ _ _=>rfl;have C_q0:=g_q0.cal X G (fun F=>b8f (base:=base) F T ) fun _ hl=>ln2 hl fun _ _=>rfl;have C_q12:=g_q12.cal X G (fun F=>b4n (base:=base) F T ) fun _ hl=>ln3 hl fun _ _ _=>rfl;have C_q8:=g_q8.cal X G (fun F=>b7q (base:=base) F T C_q12) fun _ hl=>ln3 hl fun _ _ _=>rfl;have C_q9:=g_q9.cal X G (fun F=>b8m (base:=base) F T C_q1 C_q2 C_q0 C_q4 C_q6 C_q10) fun _ hl=>ln4 hl fun _ _ _ _=>rfl;have C_q7:=g_q7.cal X G (fun F=>b8M (base:=base) F T C_q3) fun _ hl=>ln3 hl fun _ _ _=>rfl;exact b3z F_q22 T C_q1 C_q8 C_q9 C_q14 C_q7 C_q26 C_q5 C_q35
end K62
namespace PySem.W
open PySem PySem.Calls PyProof.Rows
section
def a2q(p:Program)(w:World)(n:Nat)(ann:Option Value):Nat->SharedT->Thread->Option SharedT
 |0,_,_=>none
 |m + 1,s,t=>match through t with
  |true=>some s
  |false=>match Fast.tw6613529449190102663 n ann t with
   |false=>none
   |true=>match Fast.tw10156331382660048174 (Fast.tw11892475500146522536 Fast.tw14364793385576792824) p w s t with
    |none=>none
    |some (s',t')=>a2q p w n ann m s' t'
 termination_by structural m=>m
theorem a2U{p:Program}{w:World}{n:Nat}{ann:Option Value}:∀ {m:Nat} {s s':SharedT} {t:Thread},a2q p w n ann m s t=some s'->topRun treeTable p w n ann m s.abs t=some s'.abs
 |0,_,_,_,h=>nomatch h
 |m + 1,s,s',t,h=>by
  unfold a2q at h;unfold topRun
  cases ht:through t with
  |true =>
   rw [ht] at h;exact congrArg (fun x=>some (SharedT.abs x)) (Option.some.inj h)
  |false =>
   rw [ht,<- Fast.te6613529449190102663,<- Fast.te10156331382660048174,<- Fast.te11892475500146522536,<- Fast.te14364793385576792824] at h
   cases ho:stepOk n ann t with
   |false=>rw [ho] at h;cases h
   |true =>
    rw [ho] at h
    cases hs:stepT (denote treeTable) p w s t with
    |none=>rw [hs] at h;cases h
    |some x =>
     obtain ⟨s₂,t₂⟩:=x;rw [hs] at h;show (match step (denote treeTable) p w s.abs t with | .go a b=>topRun treeTable p w n ann m a b | .halt _ _=>none)=_;rw [stepT_spec hs];exact a2U h
def b7s(P:Params):BT :=
 .node (boot_o_0 P)
  (.node (boot_o_1 P) (.node (boot_o_3 P) (.node (boot_o_7 P) .nil .nil) .nil) (.node (boot_o_5 P) (.node (boot_o_9 P) .nil .nil) .nil))
  (.node (boot_o_2 P) (.node (boot_o_4 P) (.node (boot_o_8 P) .nil .nil) .nil) (.node (boot_o_6 P) (.node (boot_o_10 P) .nil .nil) .nil))
def a1M(P:Params)(os:OsState):SharedT:=⟨b7s P,11,(boot_heap P).life,Array.mk [],boot_drawn,boot_toks,os⟩
theorem a4R(P:Params)(os:OsState):(a1M P os).abs=⟨boot_heap P,Array.mk [],boot_drawn,boot_toks,os⟩:=by kernel_rfl
theorem a4X(P:Params):((boot_heap P).isNs mainGlobals,(boot_heap P).objs.size,(boot_heap P).nsMap mainGlobals "__annotations__")=(true,11,some (.ref 6)):=by kernel_rfl
def HL{α:Type}(p q:Program)(loose:List Str)(Xt:Shared->Bool)(Yf:Shared->α)(Ya:World->α)(M:Nat)(w:World):Prop :=
 ∀ os:OsState,(a2q p w 11 (some (.ref 6)) M (a1M w.params os) (topStub p)).map (fun s =>
  ((staticsOk (Fast.tw5923862056798008813 p.main.body) (boot_heap w.params) s.abs.heap && namesBound p s.abs.heap && gensDone s.abs && laidKept (boot_heap w.params) s.abs.heap),
   Fast.tw4187177175401517315 q loose (Fast.tw5923862056798008813 p.main.body) Xt true s.abs,Yf s.abs))=some (true,openGood q loose,Ya w)
theorem a9R{p q:Program}{loose:List Str}{Xt:Shared->Bool}{α:Type}{Yf:Shared->α}{Ya:World->α}{N:Nat}
  (e:opening p=plainProg p.main.scope.names) (f:∀ s,fenceModules? p s=some s) (le:Nat.ble 600 N=true) (h:∀ w,HL p q loose Xt Yf Ya N w) :
  LeftO p q loose Xt Yf Ya N:=by
 intro w;obtain ⟨⟨hp,gs,d,k,os⟩,e1,e2⟩:=Option.map_eq_some_iff.mp (boot_open e le f w);obtain ⟨rfl,rfl,rfl,rfl⟩:hp=boot_heap w.params/\gs=Array.mk []/\d=boot_drawn/\k=boot_toks:=by simpa using e2
 obtain ⟨z1,z2,z3⟩:_/\_/\_:=by simpa only [Prod.mk.injEq] using a4X w.params
 obtain ⟨s,h1,h2⟩:=Option.map_eq_some_iff.mp (h w os);rw [<- Fast.te4187177175401517315,<- Fast.te5923862056798008813] at h2;obtain ⟨l1,l2,l3⟩:_/\_/\_:=by simpa only [Prod.mk.injEq] using h2
 have r:=a2U h1;rw [a4R] at r
 have t:topFrom treeTable p w N ⟨boot_heap w.params,Array.mk [],boot_drawn,boot_toks,os⟩=some s.abs:=by
  unfold topFrom;dsimp only;rw [z1,z2,z3,r];show (match staticsOk (importedModules p.main.body) (boot_heap w.params) s.abs.heap && namesBound p s.abs.heap && gensDone s.abs && laidKept (boot_heap w.params) s.abs.heap with | true=>_ | false=>_)=_;rw [l1]
 unfold openEnds;rw [e1];show (topFrom treeTable p w N _).map _=_;rw [t];exact congrArg some (Prod.ext l2 l3)
theorem a4o{r:OpenRow}{q:Program}{loose:List Str}{Xt:Shared->Bool}{XP:(Str->Option Value)->Heap->Prop}{α:Type}{Yf:Shared->α}{Ya:World->α}{YP:World->Heap->Prop}{d:DefRec}{kwd:List (Str×Expr)}{N:Nat}
  (hY:∀ w s,Yf s=Ya w->YP w s.heap) (hYk:∀ w h h',YP w h->(∀ b o,h.get? b=some o->h'.get? b=some o)->YP w h')
  (hX:∀ s,Xt s=true->XP (s.heap.nsMap mainGlobals) s.heap) (hXk:∀ mg h h',XP mg h->(∀ b o,h.get? b=some o->h'.get? b=some o)->XP mg h')
  (hdef:defOf q r.name=some (d,kwd)) (hp:r.prog.theDef r.name=some (d.params,d.body,d.scope)) (hk:kwWritten? d.params.kwonlyargs d.params.kw_defaults=some kwd)
  (hRf:∀ s,Xt s=true->RecFacts r.records s.heap) (hwr:(!r.writes || r.records.isEmpty)=true)
  (k1:r.wellSaid=true) (ok:(chainsOk q && opensWell r.prog && (frees r.toRowW && r.within.isEmpty))=true) (hb:r.prog.bare)
  (e:opening r.prog=plainProg r.prog.main.scope.names) (f:∀ s,fenceModules? r.prog s=some s) (le:Nat.ble 600 N=true)
  (hw:r.toRowW.promised) (x:(∀ w,HL r.prog q loose Xt Yf Ya N w)/\WalkO q loose XP YP r.toRowW d kwd fun f vs=>PySem.call f vs):r.Holds :=
 holds_open (a9R e f le x.1) hY hYk hX hXk hdef hp hk hRf hwr k1 ok hb hw x.2
def sideP{P:World->Prop}{B C:Prop}(_:(∀ w,P w)/\B->C):World->Prop:=P
section
variable {α:Type} {p q:Program} {loose:List Str} {Xt:Shared->Bool} {Yf:Shared->α} {Ya:World->α} {M:Nat}
def b8G{B C:Prop}(_:(∀ w,HL p q loose Xt Yf Ya M w)/\B->C)(w:World):Prop:=∀ os:OsState,(a2q p w 11 (some (.ref 6)) M (a1M w.params os) (topStub p)).map (fun s=>staticsOk (Fast.tw5923862056798008813 p.main.body) (boot_heap w.params) s.abs.heap && namesBound p s.abs.heap && gensDone s.abs && laidKept (boot_heap w.params) s.abs.heap)=some true
def b8V{B C:Prop}(_:(∀ w,HL p q loose Xt Yf Ya M w)/\B->C)(w:World):Prop:=∀ os:OsState,(a2q p w 11 (some (.ref 6)) M (a1M w.params os) (topStub p)).map (fun s=>Fast.tw4187177175401517315 q loose (Fast.tw5923862056798008813 p.main.body) Xt true s.abs)=some (openGood q loose)
def b8L{B C:Prop}(_:(∀ w,HL p q loose Xt Yf Ya M w)/\B->C)(w:World):Prop:=∀ os:OsState,(a2q p w 11 (some (.ref 6)) M (a1M w.params os) (topStub p)).map (fun s=>Yf s.abs)=some (Ya w)
theorem c1q{B C:Prop}{o:(∀ w,HL p q loose Xt Yf Ya M w)/\B->C}{w:World}(a:b8G o w)(b:b8V o w)(c:b8L o w):HL p q loose Xt Yf Ya M w:=fun os=>by
 obtain ⟨s,h1,h2⟩:=Option.map_eq_some_iff.mp (a os);obtain ⟨s2,k1,k2⟩:=Option.map_eq_some_iff.mp (b os);obtain ⟨s3,l1,l2⟩:=Option.map_eq_some_iff.mp (c os);rw [h1] at k1 l1
 cases k1;cases l1;rw [h1];exact congrArg some (Prod.ext h2 (Prod.ext k2 l2))
end
end
end PySem.W
namespace K62
def qv:PySem.Program:=PySem.W.view PySem.Challenge.pw_callmatch_k62_whole_read_and_written [1,2,3,4,6,7,8,9,10,11,13,14,15,16,17,19,20,21,22,23,24,25,26,27,28,29,30,32,33,34,36,37,38,39,40,41,42,43,44,45,46,47,48,49,50,51]
open PySem.W in
local macro_rules
 |`(tactic| o_head $H)=>`(tactic|
   refine a4o (q:=qv) (loose:=[])
     (Xt:=fun s=>xlAt qv [] s && recOk (RowW.records (OpenRow.toRowW (OpenLaw.row PySem.Challenge.rw_callmatch_k62_whole_read_and_written))) s)
     (XP:=XL qv []) (Yf:=Hook.obs $H) (Ya:=Hook.val $H)
     (YP:=Hook.says $H) (N:=20000) (Hook.of $H) (Hook.keeps $H)
     (fun s e=>xl_of s (Bool.and_eq_true_iff.mp e).1) XL.keeps (by rfl) (by rfl) (by rfl)
     (fun s e=>recFacts_of (Bool.and_eq_true_iff.mp e).2) (by rfl) (by assumption)
     (by decide +kernel) ⟨rfl,rfl,rfl,rfl,rfl,by decide +kernel⟩ (by kernel_rfl) (fun _=>by kernel_rfl) (by decide) ?hw ?hc)
open_top opened for PySem.Challenge.rw_callmatch_k62_whole_read_and_written
set_option maxHeartbeats 0 in
theorem side(w:PySem.World):PySem.W.sideP opened w:=by
 intro os
 kernel_rfl
end K62
open PySem PySem.W PyProof.Rows
local macro_rules | `(tactic| right) => `(tactic| (refine' K62.gt_mk ?e ?l ?c ?k; (case e => k_is); (case l => k_is); (case c => k_is); (case k => k_is)))
set_option maxRecDepth 100000 in
set_option maxHeartbeats 0 in
theorem PySem.Challenge.cw_callmatch_k62_whole_read_and_written_holds : PySem.Challenge.rw_callmatch_k62_whole_read_and_written.Holds := by
  refine K62.opened ⟨K62.side, ?_⟩
  k_fill
  refine DL.walkD (l := PySem.Challenge.rw_callmatch_k62_whole_read_and_written) (n := 63) (k := 7) (S := K62.S_q22) (x := "_law_script") rfl (by decide) rfl ⟨rfl, by decide, by decide⟩ (fun w h Y => PySem.W.kIn_of Y) ?F K62.law_true
  case F =>
    intro w mg fa h KX G hmg
    refine' K62.all_mk KX G hmg ?g_q20 ?g_q24 ?g_q15 ?g_q28 ?g_q30 ?g_q29 ?g_q32 ?g_q26 ?g_q23 ?g_q25 ?g_q19 ?g_q16 ?g_q18 ?g_q17 ?g_q33 ?g_q21 ?g_q27 ?g_q35 ?g_q34 ?g_q31 ?g_q1 ?g_q2 ?g_q13 ?g_q3 ?g_q12 ?g_q8 ?g_q0 ?g_q4 ?g_q6 ?g_q10 ?g_q9 ?g_q11 ?g_q14 ?g_q7 ?g_q5 ?e_q22 ?l_q22 ?c_q22 ?k_q22 ?z_all ?z_bool ?z_enumerate ?z_int ?z_isinstance ?z_len ?z_list ?z_min ?z_range ?z_set ?z_str ?z_sum ?z_tuple ?y_KEPT_WORDS ?d_KEPT_WORDS ?ds_KEPT_WORDS ?dz_KEPT_WORDS ?y_MOST_EDGES ?y_MOST_FIGURES ?y_MOST_FUNCTIONS ?y_MOST_ROWS ?y_MOST_SIGNS ?y_MOST_VARIABLES ?y_OPS ?d_OPS ?ds_OPS ?dz_OPS
    (case g_q20 => right)
    (case g_q24 => right)
    (case g_q15 => right)
    (case g_q28 => right)
    (case g_q30 => right)
    (case g_q29 => right)
    (case g_q32 => right)
    (case g_q26 => right)
    (case g_q23 => right)
    (case g_q25 => right)
    (case g_q19 => right)
    (case g_q16 => right)
    (case g_q18 => right)
    (case g_q17 => right)
    (case g_q33 => right)
    (case g_q21 => right)
    (case g_q27 => right)
    (case g_q35 => right)
    (case g_q34 => right)
    (case g_q31 => right)
    (case g_q1 => right)
    (case g_q2 => right)
    (case g_q13 => right)
    (case g_q3 => right)
    (case g_q12 => right)
    (case g_q8 => right)
    (case g_q0 => right)
    (case g_q4 => right)
    (case g_q6 => right)
    (case g_q10 => right)
    (case g_q9 => right)
    (case g_q11 => right)
    (case g_q14 => right)
    (case g_q7 => right)
    (case g_q5 => right)
    (case e_q22 => k_is)
    (case l_q22 => k_is)
    (case c_q22 => k_is)
    (case k_q22 => k_is)
    (case z_all => k_is)
    (case z_bool => k_is)
    (case z_enumerate => k_is)
    (case z_int => k_is)
    (case z_isinstance => k_is)
    (case z_len => k_is)
    (case z_list => k_is)
    (case z_min => k_is)
    (case z_range => k_is)
    (case z_set => k_is)
    (case z_str => k_is)
    (case z_sum => k_is)
    (case z_tuple => k_is)
    (case y_KEPT_WORDS => k_is)
    (case d_KEPT_WORDS => k_is)
    (case ds_KEPT_WORDS => exact rfl)
    (case dz_KEPT_WORDS => exact rfl)
    (case y_MOST_EDGES => k_is)
    (case y_MOST_FIGURES => k_is)
    (case y_MOST_FUNCTIONS => k_is)
    (case y_MOST_ROWS => k_is)
    (case y_MOST_SIGNS => k_is)
    (case y_MOST_VARIABLES => k_is)
    (case y_OPS => k_is)
    (case d_OPS => k_is)
    (case ds_OPS => exact rfl)
    (case dz_OPS => exact rfl)
#print axioms PySem.Challenge.cw_callmatch_k62_whole_read_and_written_holds
